/-
  What is proved here: the program's reader of packets, one thing after the other (left, octet, word, text, length, rest): what it returns and where it stands then, or that it gives up. Condition: at most 65535 bytes. ALSO: the program's reader of packets: the length behind the first byte. Condition: at most 65535 bytes. ALSO: what the program's reader of packets makes of the fields of a Connack. Condition: at most 65535 bytes. ALSO: what the program's reader of packets makes of the fields of a Publish. Condition: at most 65535 bytes. ALSO: what the program's reader of packets makes of the fields of a Connect. Condition: at most 65535 bytes. ALSO: what the program's reader of packets makes of the codes of a Suback. Condition: at most 65535 bytes. ALSO: what the program's reader of packets makes of the filters of a Subscribe, an Unsubscribe. Condition: at most 65535 bytes. ALSO: what the program's reader of packets makes of the fields of any type. Condition: at most 65535 bytes. ALSO: what the program's reader of packets returns for all bytes, or that it gives up. Condition: at most 65535 bytes. ALSO: what the program's 'read' of package packet returns, whether its reader gives up or not. Condition: at most 65535 bytes. ALSO: what the program's Parse of package packet returns. Condition: at most 65535 bytes. ALSO: rows of bytes that are added to (Trk), and the program's 'addWord', 'addText', 'behindPublish' of package packet. Condition: at most 2^40 bytes; strings of at most 65535 bytes. ALSO: the program's 'behindPublish', 'behindCodes' of package packet. Conditions: strings of at most 65535 bytes; at most 65535 codes. ALSO: the program's 'behindNames' of package packet. Conditions: strings of at most 65535 bytes; at most 65535 filters. ALSO: the program's 'behindConnect' of package packet. Conditions: strings of at most 65535 bytes; a quality from 0 to 2. ALSO: the program's 'behind' of package packet, for a packet that may be. Conditions: strings of at most 65535 bytes; at most 65535 codes, filters. ALSO: what the program's Bytes of package packet returns. Conditions: strings of at most 65535 bytes; at most 65535 codes, filters. ALSO: the chapter's examples of layer 10, asked by 'awake', come out true in every world. No condition.
-/
import Derived.Test.YtkgidimaiedocaaPrMath
import Derived.Test.YtkgidimaiedocaaPq1
import Derived.Test.YtkgidimaiedocaaVt3
import Derived.Test.YtkgidimaiedocaaMem5
import Derived.StillTailTactics
import Derived.WalkMore
import Derived.Deep.RegionHeld3
import Derived.Test.YtkgidimaiedocaaPkLd
import Derived.Laws.NewBlocks
import Derived.Test.YtkgidimaiedocaaPq4
import Derived.Test.YtkgidimaiedocaaInfo
import Derived.LoopTactic
import Derived.Defers
import Derived.Recover
import Derived.Laws.Pointers
import Derived.Test.YtkgidimaiedocaaVt2
import Derived.Test.YtkgidimaiedocaaPq13
import Derived.Test.YtkgidimaiedocaaWire
import Derived.Lib.AppendStr
import Derived.Lib.SlBytesConst
namespace Go.Proofs.Ytkgidimaiedocaa
set_option linter.unusedVariables false
set_option linter.unusedSimpArgs false
open Go.RowKit

/-- A world that came in, and the blocks that may turn: all new ones among them. -/
structure Bs where
  v : World
  S : Nat → Prop
  new : ∀ i, v.heap.size ≤ i → S i
theorem But.drewN {S : Nat → Prop} {w w' : World} (h : But S w w') (q : Nat) : But S w (w'.drewN q) := h.on (below_drewN (Below.refl _ _) q)
/-- The bytes that are read, as they came in. -/
def RrB (v : Bs) (xs : List UInt8) (A : Option Addr) (n k : Nat) : Prop := xs.length = n ∧ n ≤ k ∧ n ≤ 65535 ∧ Rd v.v A n (bv xs) ∧ (0 < n → Off v.S A)
/-- A reader in memory that has ys still ahead. -/
def RrS (v : Bs) (xs : List UInt8) (A : Option Addr) (n k g : Nat) (ys : List UInt8) (w : World) : Prop :=
  ∃ i : Nat, Blk w g 122 [.slice A n k, .int .i64 (i : Int)] ∧ i + ys.length = n ∧ xs.drop i = ys ∧ v.S g ∧ But v.S v.v w
/-- What a call of the reader comes to: it gives up, or returns and has so much still ahead. -/
def RrPost {α : Type} (v : Bs) (xs : List UInt8) (A : Option Addr) (n k g : Nat) (o : Option (α × List UInt8)) (val : α → Value) (w : World) (e : Ending) (w' : World) : Prop := match o with
  | none => e = .panicked gvP ∧ But v.S v.v w'
  | some z => e = .returned (val z.1) ∧ RrS v xs A n k g z.2 w' ∧ But (fun i => i = g) w w'
theorem RrB.rd {v : Bs} {w : World} {xs : List UInt8} {A : Option Addr} {n k : Nat} (h : RrB v xs A n k) (b : But v.S v.v w) : Rd w A n (bv xs) := by
  rcases Nat.eq_zero_or_pos n with h0 | h0
  · exact ⟨h.2.2.2.1.1, fun h1 => absurd h1 (by omega)⟩
  · exact h.2.2.2.1.but b (h.2.2.2.2 h0)

/-- It goes on by j. -/
theorem RrS.goes {v : Bs} {w w1 : World} {xs : List UInt8} {A : Option Addr} {n k g i : Nat} {ys : List UInt8} (hB : Blk w1 g 122 [.slice A n k, .int .i64 (i : Int)]) (hi : i + ys.length = n) (hd : xs.drop i = ys) (hg : v.S g) (hv : But v.S v.v w1) (hbut : But (fun i => i = g) w w1) (j : Nat) (hj : j ≤ ys.length) (z : Int) (hz : z = (i : Int) + (j : Int)) :
    RrS v xs A n k g (ys.drop j) (w1.setCell ⟨g, 1, none⟩ (.int .i64 z)) ∧ But (fun i => i = g) w (w1.setCell ⟨g, 1, none⟩ (.int .i64 z)) := by
  refine ⟨⟨i + j, ?_, by rw [List.length_drop]; omega, by rw [← List.drop_drop, hd], hg, hv.setCell' _ hg⟩, hbut.setCell' _ rfl⟩
  have := hB.set 1 (.int .i64 z)
  rw [hz, ← Int.natCast_add] at this ⊢
  exact this
theorem Blk.drewN {w : World} {g : Nat} {t : TypeId} {cs : List Value} (h : Blk w g t cs) (q : Nat) : Blk (w.drewN q) g t cs := h

theorem rrLeft_any (v : Bs) (xs : List UInt8) (A : Option Addr) (n k g : Nat) (ys : List UInt8) (w : World) (hb : RrB v xs A n k) (h : RrS v xs A n k g ys w) : Calls Try.prog 129 #[.pointer (some ⟨g, 0, none⟩)] w fun e w' => e = .returned (.int .i64 (ys.length : Int)) ∧ RrS v xs A n k g ys w' ∧ But (fun i => i = g) w w' := by
  obtain ⟨i, hB, hi, hd, hg, hv⟩ := h
  obtain ⟨-, -, h65, -, -⟩ := hb
  obtain ⟨m, hm⟩ : ∃ m, ys.length = m := ⟨_, rfl⟩
  rw [hm] at hi ⊢
  have c0 := hB.cell 0
  have c1 := hB.cell 1
  simp only [List.getElem?_cons_zero, List.getElem?_cons_succ] at c0 c1
  have HB := hide hB
  have q1 : ((n : Int) - (i : Int)) = (m : Int) := by omega
  have q2 : IntKind.i64.wrap ((n : Int) - (i : Int)) = (m : Int) := by rw [IntKind.wrap_i64]; omega
  have Hm := hide hm
  have Hi := hide hi
  clear hB hi hm
  go_enter Try.func129, Try.ntmps129
  go_wp2_with fail
  go_quiet (fail)
  go_wp2_with fail
  go_ret
  exact ⟨rfl, ⟨i, HB.out, by rw [Hm.out]; exact Hi.out, hd, hg, But.drewN hv _⟩, But.ofBelow (below_drewN (Below.refl _ _) _) _⟩

theorem rrLeft_q (v : Bs) (xs : List UInt8) (A : Option Addr) (n k g : Nat) (ys : List UInt8) (w : World) (hb : RrB v xs A n k) (h : RrS v xs A n k g ys w) : Calls Try.prog 129 #[.pointer (some ⟨g, 0, none⟩)] w fun e w' => e = .returned (.int .i64 (ys.length : Int)) ∧ ∃ q, w' = w.drewN q := by
  obtain ⟨i, hB, hi, hd, hg, hv⟩ := h
  obtain ⟨-, -, h65, -, -⟩ := hb
  obtain ⟨m, hm⟩ : ∃ m, ys.length = m := ⟨_, rfl⟩
  rw [hm] at hi ⊢
  have c0 := hB.cell 0
  have c1 := hB.cell 1
  simp only [List.getElem?_cons_zero, List.getElem?_cons_succ] at c0 c1
  have q1 : ((n : Int) - (i : Int)) = (m : Int) := by omega
  have q2 : IntKind.i64.wrap ((n : Int) - (i : Int)) = (m : Int) := by rw [IntKind.wrap_i64]; omega
  clear hB hi hm
  go_enter Try.func129, Try.ntmps129
  go_wp2_with fail
  go_quiet (fail)
  go_wp2_with fail
  go_ret
  exact ⟨rfl, _, rfl⟩

theorem rrOctet_any (v : Bs) (xs : List UInt8) (A : Option Addr) (n k g : Nat) (ys : List UInt8) (w : World) (hb : RrB v xs A n k) (h : RrS v xs A n k g ys w) : Calls Try.prog 126 #[.pointer (some ⟨g, 0, none⟩)] w (RrPost v xs A n k g (qB ys) (fun c => .int .i64 (c : Int)) w) := by
  have P := hide (rrLeft_any v xs A n k g ys w hb h)
  clear h
  cases ys with
  | nil =>
    simp only [List.length_nil] at P
    show Calls _ _ _ _ fun e w' => e = .panicked gvP ∧ But v.S v.v w'
    go_enter Try.func126, Try.ntmps126
    go_wp2_with fail
    refine P.out.mono ?_
    rintro e w1 ⟨rfl, ⟨i, -, -, -, -, hv⟩, -⟩
    go_wp2_with fail
    refine (must_no _ _).mono ?_
    rintro e w2 ⟨rfl, rfl⟩
    go_wp2_with fail
    exact ⟨rfl, rfl, hv⟩
  | cons c t =>
    show Calls _ _ _ _ fun e w' => e = .returned (.int .i64 ((c.toNat : Nat) : Int)) ∧ RrS v xs A n k g t w' ∧ But (fun i => i = g) w w'
    obtain ⟨m, hm⟩ : ∃ m, t.length = m := ⟨_, rfl⟩
    rw [List.length_cons, hm] at P
    have q0 : (((m + 1 : Nat) : Int) > 0) := by omega
    have hc8 := c.toNat_lt
    have Hm := hide hm
    clear hm
    obtain ⟨X, hX⟩ : ∃ X, c.toNat = X := ⟨_, rfl⟩
    have HX := hide hX
    rw [hX] at hc8 ⊢
    clear hX
    go_enter Try.func126, Try.ntmps126
    go_wp2_with fail
    refine P.out.mono ?_
    rintro e w1 ⟨rfl, ⟨i, hB, hi, hd, hg, hv⟩, hbut⟩
    rw [List.length_cons, Hm.out] at hi
    obtain ⟨b, o, rfl, hbl, hcell⟩ := (hb.rd hv).at_ (k := i) (by omega)
    have hx : xs[i]? = some c := by
      have := congrArg (fun l => l[0]?) hd
      simpa using this
    have cA : w1.cell? ⟨b, o + i, none⟩ = some (.int .u8 c.toNat) := hcell i _ (by simp [bv, hx])
    have c0 := hB.cell 0
    have c1 := hB.cell 1
    have f1 := hB.frozen 1
    simp only [List.getElem?_cons_zero, List.getElem?_cons_succ] at c0 c1
    have q1 : (i : Int) < (n : Int) := by omega
    have HB := hide hB
    have Hd := hide hd
    have Hi := hide hi
    have Hb := hide hbut
    have h65 := hb.2.2.1
    rw [HX.out] at cA
    clear hB hd hi hbut hx hcell hbl hb
    go_wp2_with fail
    refine (must_ok _ _).mono ?_
    rintro e w2 ⟨rfl, rfl⟩
    go_wp2_with fail
    go_quiet (fail)
    go_wp2_with fail
    go_ret
    exact ⟨rfl, RrS.goes (HB.out.drewN nq) (by rw [List.length_cons, Hm.out]; exact Hi.out) Hd.out hg (But.drewN hv nq) (Hb.out.drewN nq) 1 (by simp) _ rfl⟩

set_option maxRecDepth 100000 in
theorem rrWord_any (v : Bs) (xs : List UInt8) (A : Option Addr) (n k g : Nat) (ys : List UInt8) (w : World) (hb : RrB v xs A n k) (h : RrS v xs A n k g ys w) : Calls Try.prog 136 #[.pointer (some ⟨g, 0, none⟩)] w (RrPost v xs A n k g (qW ys) (fun c => .int .i64 (c : Int)) w) := by
  obtain ⟨i, hB, hi, hd, hg, hv⟩ := h
  have c0 := hB.cell 0
  have c1 := hB.cell 1
  simp only [List.getElem?_cons_zero, List.getElem?_cons_succ] at c0 c1
  have h65 := hb.2.2.1
  have HB := hide (hB : Blk w g 122 [.slice A n k, .int .i64 (i : Int)])
  have Hv := hide hv
  have Hd := hide hd
  have Hi := hide hi
  have Hb := hide (But.refl (fun i => i = g) w)
  have f1 := hB.frozen 1
  have hib : (i : Int) ≤ 65535 := by omega
  have bad : qW ys = none → (n : Int) - 2 < (i : Int) := by
    intro e
    match ys, e, hi with
    | [], _, hi => simp at hi; omega
    | [c], _, hi => simp at hi; omega
  have good : ∀ z, qW ys = some z → ∃ x y : UInt8, xs[i]? = some x ∧ xs[i + 1]? = some y ∧ z = (256 * x.toNat + y.toNat, ys.drop 2) ∧ 2 ≤ ys.length := by
    intro z e
    match ys, e, hd with
    | x :: y :: t, e, hd =>
      injection e with e
      have h0 := congrArg (fun l => l[0]?) hd
      have h1 := congrArg (fun l => l[1]?) hd
      exact ⟨x, y, by simpa using h0, by simpa using h1, e.symm, by simp⟩
  clear hB hd hi hv
  cases hq : qW ys with
  | none =>
    have q1 := bad hq
    have P := hide fun W => at_more A n k (i : Int) W (by omega) q1 (by unfold maxLen; omega)
    show Calls _ _ _ _ fun e w' => e = .panicked gvP ∧ But v.S v.v w'
    clear good bad hq hb
    go_enter Try.func136, Try.ntmps136
    go_wp2_with fail
    go_quiet ((go_at_call 141; exact (P.out _).mono fun _ _ h => ⟨h.1, _, h.2.symm⟩))
    go_wp2_with fail
    refine (must_no _ _).mono ?_
    rintro e w2 ⟨rfl, rfl⟩
    go_wp2_with fail
    exact ⟨rfl, rfl, But.drewN Hv.out _⟩
  | some z =>
    obtain ⟨x, y, hx, hy, rfl, h2⟩ := good z hq
    have P := hide fun W hW => at_ok A n k i xs W hW (by have := Hi.out; omega) (by unfold maxLen; omega) x y hx hy
    have HR := hide (hb.rd Hv.out)
    have hx8 := x.toNat_lt
    have hy8 := y.toNat_lt
    obtain ⟨X, hX⟩ : ∃ X, 256 * x.toNat + y.toNat = X := ⟨_, rfl⟩
    have HX := hide (show (256 * (x.toNat : Int) + (y.toNat : Int)) = (X : Int) by omega)
    rw [hX]
    show Calls _ _ _ _ fun e w' => e = .returned (.int .i64 (X : Int)) ∧ RrS v xs A n k g (ys.drop 2) w' ∧ But (fun i => i = g) w w'
    clear good bad hq hb hx hy hX hx8 hy8
    go_enter Try.func136, Try.ntmps136
    go_wp2_with fail
    go_quiet ((go_at_call 141; exact Calls.quiet_of (P.out _ (HR.out.drewN _))))
    rw [HX.out]
    go_wp2_with fail
    refine (must_ok _ _).mono ?_
    rintro e w2 ⟨rfl, rfl⟩
    go_wp2_with fail
    go_ret
    exact ⟨rfl, RrS.goes (HB.out.drewN nq) Hi.out Hd.out hg (But.drewN Hv.out nq) (Hb.out.drewN nq) 2 h2 _ rfl⟩

/-- What stands two bytes on. -/
theorem qW_at {xs ys : List UInt8} {i : Nat} (hd : xs.drop i = ys) {z : Nat × List UInt8} (e : qW ys = some z) : ∃ x y : UInt8, xs[i]? = some x ∧ xs[i + 1]? = some y ∧ z = (256 * x.toNat + y.toNat, ys.drop 2) ∧ 2 ≤ ys.length := by
  match ys, e, hd with
  | x :: y :: t, e, hd =>
    injection e with e
    have h0 := congrArg (fun l => l[0]?) hd
    have h1 := congrArg (fun l => l[1]?) hd
    exact ⟨x, y, by simpa using h0, by simpa using h1, e.symm, by simp⟩
theorem qW_no {ys : List UInt8} (e : qW ys = none) : ys.length < 2 := by
  match ys, e with
  | [], _ => simp
  | [c], _ => simp

set_option maxRecDepth 100000 in
theorem rrText_any (v : Bs) (xs : List UInt8) (A : Option Addr) (n k g : Nat) (ys : List UInt8) (w : World) (hb : RrB v xs A n k) (h : RrS v xs A n k g ys w) : Calls Try.prog 139 #[.pointer (some ⟨g, 0, none⟩)] w (RrPost v xs A n k g (qT ys) (fun s => .string (str s)) w) := by
  obtain ⟨i, hB, hi, hd, hg, hv⟩ := h
  have c0 := hB.cell 0
  have c1 := hB.cell 1
  simp only [List.getElem?_cons_zero, List.getElem?_cons_succ] at c0 c1
  have h65 := hb.2.2.1
  have hnk := hb.2.1
  have HB := hide (hB : Blk w g 122 [.slice A n k, .int .i64 (i : Int)])
  have Hv := hide hv
  have Hd := hide hd
  have Hi := hide hi
  have Hb := hide (But.refl (fun i => i = g) w)
  have f1 := hB.frozen 1
  have hib : (i : Int) ≤ 65535 := by omega
  have HR := hide (hb.rd hv)
  have HQ := hide (show ∀ z, qW ys = some z → qT ys = if z.2.length < z.1 then none else some (z.2.take z.1, z.2.drop z.1) from fun z e => by unfold qT; rw [e])
  have HN := hide (show qW ys = none → qT ys = none from fun e => by unfold qT; rw [e])
  clear hB hv hb
  cases hq : qW ys with
  | none =>
    rw [HN.out hq]
    have h2 := qW_no hq
    have P := hide fun W => textAt_more A n k (i : Int) W (by omega) (by omega) (by unfold maxLen; omega)
    show Calls _ _ _ _ fun e w' => e = .panicked gvP ∧ But v.S v.v w'
    clear hq hd hi
    go_enter Try.func139, Try.ntmps139
    go_wp2_with fail
    go_quiet ((go_at_call 142; exact (P.out _).mono fun _ _ h => ⟨h.1, _, h.2.symm⟩))
    go_wp2_with fail
    refine (must_no _ _).mono ?_
    rintro e w2 ⟨rfl, rfl⟩
    go_wp2_with fail
    exact ⟨rfl, rfl, But.drewN Hv.out _⟩
  | some z =>
    rw [HQ.out z hq]
    obtain ⟨x, y, hx, hy, rfl, h2⟩ := qW_at hd hq
    obtain ⟨m, hm⟩ : ∃ m, 256 * x.toNat + y.toNat = m := ⟨_, rfl⟩
    simp only [hm, List.length_drop]
    by_cases hl : ys.length - 2 < m
    · rw [if_pos hl]
      have P := hide fun W hW => textAt_short A n k i xs W hW (by omega) (by omega) x y hx hy (by omega)
      show Calls _ _ _ _ fun e w' => e = .panicked gvP ∧ But v.S v.v w'
      clear hq hd hi hx hy hm
      go_enter Try.func139, Try.ntmps139
      go_wp2_with fail
      go_quiet ((go_at_call 142; exact Calls.quiet_of (P.out _ (HR.out.drewN _))))
      go_wp2_with fail
      refine (must_no _ _).mono ?_
      rintro e w2 ⟨rfl, rfl⟩
      go_wp2_with fail
      exact ⟨rfl, rfl, But.drewN Hv.out _⟩
    · rw [if_neg hl]
      have P := hide fun W hW => textAt_ok A n k i m xs W hW hnk (by omega) (by omega) x y hx hy hm
      have e2 : ys.drop 2 = xs.drop (i + 2) := by rw [← hd, List.drop_drop]
      have e3 : (ys.drop 2).drop m = ys.drop (2 + m) := by rw [List.drop_drop]
      rw [e3, e2]
      obtain ⟨S, hS⟩ : ∃ S, (xs.drop (i + 2)).take m = S := ⟨_, rfl⟩
      rw [hS] at P ⊢
      show Calls _ _ _ _ fun e w' => e = .returned (.string (str S)) ∧ RrS v xs A n k g (ys.drop (2 + m)) w' ∧ But (fun i => i = g) w w'
      have hj : 2 + m ≤ ys.length := by omega
      have Hj := hide hj
      obtain ⟨N, hN⟩ : ∃ N, i + 2 + m = N := ⟨_, rfl⟩
      rw [hN] at P
      have HN2 := hide hN
      clear hq hd hi hx hy hm e2 e3 hS hl hj hN
      go_enter Try.func139, Try.ntmps139
      go_wp2_with fail
      go_quiet ((go_at_call 142; exact Calls.quiet_of (P.out _ (HR.out.drewN _))))
      go_wp2_with fail
      refine (must_ok _ _).mono ?_
      rintro e w2 ⟨rfl, rfl⟩
      go_wp2_with fail
      go_ret
      exact ⟨rfl, RrS.goes (HB.out.drewN nq) Hi.out Hd.out hg (But.drewN Hv.out nq) (Hb.out.drewN nq) (2 + m) Hj.out _ (by have := HN2.out; omega)⟩

set_option maxRecDepth 100000 in
theorem rrRest_any (v : Bs) (xs : List UInt8) (A : Option Addr) (n k g : Nat) (ys : List UInt8) (w : World) (hb : RrB v xs A n k) (h : RrS v xs A n k g ys w) : Calls Try.prog 140 #[.pointer (some ⟨g, 0, none⟩)] w fun e w' => e = .returned (.string (str ys)) ∧ RrS v xs A n k g [] w' ∧ But (fun i => i = g) w w' := by
  obtain ⟨i, hB, hi, hd, hg, hv⟩ := h
  have c0 := hB.cell 0
  have c1 := hB.cell 1
  simp only [List.getElem?_cons_zero, List.getElem?_cons_succ] at c0 c1
  have h65 := hb.2.2.1
  have hnk := hb.2.1
  have f1 := hB.frozen 1
  have hin : (i : Int) ≤ (n : Int) := by omega
  have hR := hb.rd hv
  have r2 := hR.tail i k (by omega) hnk
  rw [bv_drop, hd] at r2
  have hsl := fun W => run_slTail (P := Try.prog) 28 5 Try.underlying28 u8_size A n k (i : Int) i rfl (by omega) W
  have hcs := fun q => rdStr (r2.drewN q) (k - i)
  have HB := hide hB
  have Hv := hide hv
  have Hd := hide hd
  have Hi := hide hi
  have Hb := hide (But.refl (fun i => i = g) w)
  clear hB hi hd hv hR r2 hb
  go_enter Try.func140, Try.ntmps140
  go_wp2_with fail
  go_quiet (fail)
  go_wp2_with fail
  go_ret
  have hl : ys.length ≤ ys.length := Nat.le_refl _
  have := RrS.goes (HB.out.drewN nq) Hi.out Hd.out hg (But.drewN Hv.out nq) (Hb.out.drewN nq) ys.length hl (n : Int) (by have := Hi.out; omega)
  rw [List.drop_length] at this
  exact ⟨rfl, this⟩

end Go.Proofs.Ytkgidimaiedocaa

namespace Go.Proofs.Ytkgidimaiedocaa
set_option linter.unusedVariables false
set_option linter.unusedSimpArgs false
open Go.RowKit

def lenQ (xs : List UInt8) : Option (Nat × List UInt8) := if (atR xs 1).2.2 = 0 then some ((atR xs 1).1, xs.drop (atR xs 1).2.1) else none

set_option maxRecDepth 100000 in
theorem rrLen_any (v : Bs) (xs : List UInt8) (A : Option Addr) (n k g : Nat) (w : World) (hb : RrB v xs A n k) (h0 : 1 ≤ n) (h : RrS v xs A n k g (xs.drop 1) w) : Calls Try.prog 127 #[.pointer (some ⟨g, 0, none⟩)] w (RrPost v xs A n k g (lenQ xs) (fun c => .int .i64 (c : Int)) w) := by
  obtain ⟨i, hB, hi, hd, hg, hv⟩ := h
  have hxl := hb.1
  obtain rfl : i = 1 := by rw [List.length_drop] at hi; omega
  have c0 := hB.cell 0
  have c1 := hB.cell 1
  simp only [List.getElem?_cons_zero, List.getElem?_cons_succ] at c0 c1
  have h65 := hb.2.2.1
  have hnk := hb.2.1
  have Hv := hide hv
  have P := hide fun W (hW : Rd W A n (bv xs)) => show Calls Try.prog 103 #[.slice A n k, .int .i64 1] W _ from vat_any A n k 1 xs W hW hnk (by unfold maxLen; omega) hxl
  have HR := hide (hb.rd hv)
  have HB := hide hB
  have HA := hide (atR_putQ xs 1)
  have HX := hide hxl
  unfold lenQ
  generalize atR xs 1 = r at *
  obtain ⟨x, y, z⟩ := r
  simp only at P HA ⊢
  clear hi hd hB hv hb hxl
  by_cases hz : z = 0
  · subst hz
    rw [if_pos rfl]
    obtain ⟨j, _, _, hj1, hj2, _, _⟩ := HA.out rfl
    subst hj2
    show Calls _ _ _ _ fun e w' => e = .returned (.int .i64 (x : Int)) ∧ RrS v xs A n k g (xs.drop (1 + j)) w' ∧ But (fun i => i = g) w w'
    go_enter Try.func127, Try.ntmps127
    go_wp2_with fail
    refine wp_region_held_drew (S := fun W => W.cell? ⟨g, 0, none⟩ = some (.slice A n k) ∧ W.cell? ⟨g, 1, none⟩ = some (.int .i64 1)) (by kernel_rfl) ?_ (fun hHeld => ?_)
    · exact ⟨c0, c1⟩
    refine wpAnyH_take (i := 0) (oi := { dst := some 7, op := _, type := _, pos := _, after := _, guard := _ }) (v := ?v1x1) rfl (by kernel_rfl) (by kernel_rfl) (by kernel_rfl) (fun _ _ _ h => h) (Or.inl ⟨by rfl, ?hy1x1⟩) hHeld ?rest1x1
    case hy1x1 => (intro w hSw; go_simp <;> with_reducible rfl)
    try simp only [Act.put, List.setIfInBounds_toArray, List.set_cons_zero, List.set_cons_succ]
    refine wpAnyH_take (i := 1) (oi := { dst := some 8, op := _, type := _, pos := _, after := _, guard := _ }) (v := ?v1x2) rfl (by kernel_rfl) (by kernel_rfl) (by kernel_rfl) (fun _ _ _ h => h) (Or.inl ⟨by rfl, ?hy1x2⟩) hHeld ?rest1x2
    case hy1x2 => (intro w hSw; go_simp <;> with_reducible rfl)
    try simp only [Act.put, List.setIfInBounds_toArray, List.set_cons_zero, List.set_cons_succ]
    refine wpAnyH_take (i := 2) (oi := { dst := some 9, op := _, type := _, pos := _, after := _, guard := _ }) (v := ?v1x3) rfl (by kernel_rfl) (by kernel_rfl) (by kernel_rfl) (fun _ _ _ h => h) (Or.inl ⟨by rfl, ?hy1x3⟩) hHeld ?rest1x3
    case hy1x3 => (intro w hSw; go_simp <;> with_reducible rfl)
    try simp only [Act.put, List.setIfInBounds_toArray, List.set_cons_zero, List.set_cons_succ]
    refine wpAnyH_take (i := 3) (oi := { dst := some 10, op := _, type := _, pos := _, after := _, guard := _ }) (v := ?v1x4) rfl (by kernel_rfl) (by kernel_rfl) (by kernel_rfl) (fun _ _ _ h => h) (Or.inl ⟨by rfl, ?hy1x4⟩) hHeld ?rest1x4
    case hy1x4 => (intro w hSw; go_simp <;> with_reducible rfl)
    try simp only [Act.put, List.setIfInBounds_toArray, List.set_cons_zero, List.set_cons_succ]
    refine wpAnyH_take (i := 4) (oi := { dst := some 11, op := _, type := _, pos := _, after := _, guard := _ }) (v := ?v1x5) rfl (by kernel_rfl) (by kernel_rfl) (by kernel_rfl) (fun _ _ _ h => h) (Or.inl ⟨by rfl, ?hy1x5⟩) hHeld ?rest1x5
    case hy1x5 => (intro w hSw; go_simp <;> with_reducible rfl)
    try simp only [Act.put, List.setIfInBounds_toArray, List.set_cons_zero, List.set_cons_succ]
    refine wpAnyH_take (i := 5) (oi := { dst := some 12, op := _, type := _, pos := _, after := _, guard := _ }) (v := ?v1x6) rfl (by kernel_rfl) (by kernel_rfl) (by kernel_rfl) (fun _ _ _ h => h) (Or.inl ⟨by rfl, ?hy1x6⟩) hHeld ?rest1x6
    case hy1x6 => (intro w hSw; go_simp <;> with_reducible rfl)
    try simp only [Act.put, List.setIfInBounds_toArray, List.set_cons_zero, List.set_cons_succ]
    refine wpAnyH_take (i := 6) (oi := { dst := some 13, op := _, type := _, pos := _, after := _, guard := _ }) (v := ?v1x7) rfl (by kernel_rfl) (by kernel_rfl) (by kernel_rfl) (fun _ _ _ h => h) (Or.inl ⟨by rfl, ?hy1x7⟩) hHeld ?rest1x7
    case hy1x7 => (intro w hSw; go_simp <;> with_reducible rfl)
    try simp only [Act.put, List.setIfInBounds_toArray, List.set_cons_zero, List.set_cons_succ]
    refine wpAnyH_take (i := 7) (oi := { dst := some 14, op := _, type := _, pos := _, after := _, guard := _ }) (v := ?v1x8) rfl (by kernel_rfl) (by kernel_rfl) (by kernel_rfl) (fun _ _ _ h => h) (Or.inl ⟨by rfl, ?hy1x8⟩) hHeld ?rest1x8
    case hy1x8 => (intro w hSw; go_simp <;> with_reducible rfl)
    try simp only [Act.put, List.setIfInBounds_toArray, List.set_cons_zero, List.set_cons_succ]
    refine wpAnyH_ready (rs := [8]) (by kernel_rfl) (by simp) (AllReadyH.cons (o := { dst := some 15, op := _, type := _, pos := _, after := _, guard := _ }) rfl (fun K hK => ?_) AllReadyH.nil)
    go_simp
    refine (P.out _ (HR.out.drewN 1)).mono ?_
    rintro e w1 ⟨rfl, b1⟩
    replace b1 : Below w.heap.size w w1 := below_unN (n := 1) b1
    have HB1 := hide (HB.out.keep b1)
    have Hv1 := hide (But.on Hv.out b1)
    have Hb1 := hide (But.ofBelow b1 (fun i => i = g))
    go_wp2_with fail
    refine hK.out _ _ ?_ (fun hHeld => ?_)
    · exact ⟨HB1.out.cell 0, HB1.out.cell 1⟩
    clear hK K
    try simp only [Act.put, List.setIfInBounds_toArray, List.set_cons_zero, List.set_cons_succ]
    refine wpAnyH_take (i := 9) (oi := { dst := some 6, op := _, type := _, pos := _, after := _, guard := _ }) (v := ?v1x10) rfl (by kernel_rfl) (by kernel_rfl) (by kernel_rfl) (fun _ _ _ h => h) (Or.inl ⟨by rfl, ?hy1x10⟩) hHeld ?rest1x10
    case hy1x10 => (intro w hSw; go_simp <;> with_reducible rfl)
    try simp only [Act.put, List.setIfInBounds_toArray, List.set_cons_zero, List.set_cons_succ]
    refine wpAnyH_take (i := 10) (oi := { dst := some 16, op := _, type := _, pos := _, after := _, guard := _ }) (v := ?v1x11) rfl (by kernel_rfl) (by kernel_rfl) (by kernel_rfl) (fun _ _ _ h => h) (Or.inl ⟨by rfl, ?hy1x11⟩) hHeld ?rest1x11
    case hy1x11 => (intro w hSw; go_simp <;> with_reducible rfl)
    try simp only [Act.put, List.setIfInBounds_toArray, List.set_cons_zero, List.set_cons_succ]
    refine wpAnyH_take (i := 11) (oi := { dst := some 17, op := _, type := _, pos := _, after := _, guard := _ }) (v := ?v1x12) rfl (by kernel_rfl) (by kernel_rfl) (by kernel_rfl) (fun _ _ _ h => h) (Or.inl ⟨by rfl, ?hy1x12⟩) hHeld ?rest1x12
    case hy1x12 => (intro w hSw; go_simp <;> with_reducible rfl)
    try simp only [Act.put, List.setIfInBounds_toArray, List.set_cons_zero, List.set_cons_succ]
    refine wpAnyH_take (i := 12) (oi := { dst := some 18, op := _, type := _, pos := _, after := _, guard := _ }) (v := ?v1x13) rfl (by kernel_rfl) (by kernel_rfl) (by kernel_rfl) (fun _ _ _ h => h) (Or.inl ⟨by rfl, ?hy1x13⟩) hHeld ?rest1x13
    case hy1x13 => (intro w hSw; go_simp <;> with_reducible rfl)
    try simp only [Act.put, List.setIfInBounds_toArray, List.set_cons_zero, List.set_cons_succ]
    refine wpAnyH_take (i := 13) (oi := { dst := some 3, op := _, type := _, pos := _, after := _, guard := _ }) (v := ?v1x14) rfl (by kernel_rfl) (by kernel_rfl) (by kernel_rfl) (fun _ _ _ h => h) (Or.inl ⟨by rfl, ?hy1x14⟩) hHeld ?rest1x14
    case hy1x14 => (intro w hSw; go_simp <;> with_reducible rfl)
    try simp only [Act.put, List.setIfInBounds_toArray, List.set_cons_zero, List.set_cons_succ]
    refine wpAnyH_take (i := 14) (oi := { dst := some 4, op := _, type := _, pos := _, after := _, guard := _ }) (v := ?v1x15) rfl (by kernel_rfl) (by kernel_rfl) (by kernel_rfl) (fun _ _ _ h => h) (Or.inl ⟨by rfl, ?hy1x15⟩) hHeld ?rest1x15
    case hy1x15 => (intro w hSw; go_simp <;> with_reducible rfl)
    try simp only [Act.put, List.setIfInBounds_toArray, List.set_cons_zero, List.set_cons_succ]
    refine wpAnyH_take (i := 15) (oi := { dst := some 5, op := _, type := _, pos := _, after := _, guard := _ }) (v := ?v1x16) rfl (by kernel_rfl) (by kernel_rfl) (by kernel_rfl) (fun _ _ _ h => h) (Or.inl ⟨by rfl, ?hy1x16⟩) hHeld ?rest1x16
    case hy1x16 => (intro w hSw; go_simp <;> with_reducible rfl)
    try simp only [Act.put, List.setIfInBounds_toArray, List.set_cons_zero, List.set_cons_succ]
    refine wpAnyH_done (by kernel_rfl) ?_ _
    go_wp2_with fail
    refine (must_ok _ _).mono ?_
    rintro e w2 ⟨rfl, rfl⟩
    have c1 := HB1.out.cell 1
    simp only [List.getElem?_cons_zero, List.getElem?_cons_succ] at c1
    have f1 := HB1.out.frozen 1
    go_wp2_with fail
    go_ret
    have := RrS.goes (v := v) (ys := xs.drop 1) HB1.out (by rw [List.length_drop, HX.out]; omega) rfl hg Hv1.out Hb1.out j (by rw [List.length_drop, HX.out]; have := HX.out; omega) ((1 + j : Nat) : Int) (by omega)
    rw [List.drop_drop] at this
    exact ⟨rfl, this⟩
  · rw [if_neg hz]
    show Calls _ _ _ _ fun e w' => e = .panicked gvP ∧ But v.S v.v w'
    have q : ((z : Int) == 0) = false := by simpa using hz
    go_enter Try.func127, Try.ntmps127
    go_wp2_with fail
    refine wp_region_held_drew (S := fun W => W.cell? ⟨g, 0, none⟩ = some (.slice A n k) ∧ W.cell? ⟨g, 1, none⟩ = some (.int .i64 1)) (by kernel_rfl) ?_ (fun hHeld => ?_)
    · exact ⟨c0, c1⟩
    refine wpAnyH_take (i := 0) (oi := { dst := some 7, op := _, type := _, pos := _, after := _, guard := _ }) (v := ?v2x1) rfl (by kernel_rfl) (by kernel_rfl) (by kernel_rfl) (fun _ _ _ h => h) (Or.inl ⟨by rfl, ?hy2x1⟩) hHeld ?rest2x1
    case hy2x1 => (intro w hSw; go_simp <;> with_reducible rfl)
    try simp only [Act.put, List.setIfInBounds_toArray, List.set_cons_zero, List.set_cons_succ]
    refine wpAnyH_take (i := 1) (oi := { dst := some 8, op := _, type := _, pos := _, after := _, guard := _ }) (v := ?v2x2) rfl (by kernel_rfl) (by kernel_rfl) (by kernel_rfl) (fun _ _ _ h => h) (Or.inl ⟨by rfl, ?hy2x2⟩) hHeld ?rest2x2
    case hy2x2 => (intro w hSw; go_simp <;> with_reducible rfl)
    try simp only [Act.put, List.setIfInBounds_toArray, List.set_cons_zero, List.set_cons_succ]
    refine wpAnyH_take (i := 2) (oi := { dst := some 9, op := _, type := _, pos := _, after := _, guard := _ }) (v := ?v2x3) rfl (by kernel_rfl) (by kernel_rfl) (by kernel_rfl) (fun _ _ _ h => h) (Or.inl ⟨by rfl, ?hy2x3⟩) hHeld ?rest2x3
    case hy2x3 => (intro w hSw; go_simp <;> with_reducible rfl)
    try simp only [Act.put, List.setIfInBounds_toArray, List.set_cons_zero, List.set_cons_succ]
    refine wpAnyH_take (i := 3) (oi := { dst := some 10, op := _, type := _, pos := _, after := _, guard := _ }) (v := ?v2x4) rfl (by kernel_rfl) (by kernel_rfl) (by kernel_rfl) (fun _ _ _ h => h) (Or.inl ⟨by rfl, ?hy2x4⟩) hHeld ?rest2x4
    case hy2x4 => (intro w hSw; go_simp <;> with_reducible rfl)
    try simp only [Act.put, List.setIfInBounds_toArray, List.set_cons_zero, List.set_cons_succ]
    refine wpAnyH_take (i := 4) (oi := { dst := some 11, op := _, type := _, pos := _, after := _, guard := _ }) (v := ?v2x5) rfl (by kernel_rfl) (by kernel_rfl) (by kernel_rfl) (fun _ _ _ h => h) (Or.inl ⟨by rfl, ?hy2x5⟩) hHeld ?rest2x5
    case hy2x5 => (intro w hSw; go_simp <;> with_reducible rfl)
    try simp only [Act.put, List.setIfInBounds_toArray, List.set_cons_zero, List.set_cons_succ]
    refine wpAnyH_take (i := 5) (oi := { dst := some 12, op := _, type := _, pos := _, after := _, guard := _ }) (v := ?v2x6) rfl (by kernel_rfl) (by kernel_rfl) (by kernel_rfl) (fun _ _ _ h => h) (Or.inl ⟨by rfl, ?hy2x6⟩) hHeld ?rest2x6
    case hy2x6 => (intro w hSw; go_simp <;> with_reducible rfl)
    try simp only [Act.put, List.setIfInBounds_toArray, List.set_cons_zero, List.set_cons_succ]
    refine wpAnyH_take (i := 6) (oi := { dst := some 13, op := _, type := _, pos := _, after := _, guard := _ }) (v := ?v2x7) rfl (by kernel_rfl) (by kernel_rfl) (by kernel_rfl) (fun _ _ _ h => h) (Or.inl ⟨by rfl, ?hy2x7⟩) hHeld ?rest2x7
    case hy2x7 => (intro w hSw; go_simp <;> with_reducible rfl)
    try simp only [Act.put, List.setIfInBounds_toArray, List.set_cons_zero, List.set_cons_succ]
    refine wpAnyH_take (i := 7) (oi := { dst := some 14, op := _, type := _, pos := _, after := _, guard := _ }) (v := ?v2x8) rfl (by kernel_rfl) (by kernel_rfl) (by kernel_rfl) (fun _ _ _ h => h) (Or.inl ⟨by rfl, ?hy2x8⟩) hHeld ?rest2x8
    case hy2x8 => (intro w hSw; go_simp <;> with_reducible rfl)
    try simp only [Act.put, List.setIfInBounds_toArray, List.set_cons_zero, List.set_cons_succ]
    refine wpAnyH_ready (rs := [8]) (by kernel_rfl) (by simp) (AllReadyH.cons (o := { dst := some 15, op := _, type := _, pos := _, after := _, guard := _ }) rfl (fun K hK => ?_) AllReadyH.nil)
    go_simp
    refine (P.out _ (HR.out.drewN 1)).mono ?_
    rintro e w1 ⟨rfl, b1⟩
    replace b1 : Below w.heap.size w w1 := below_unN (n := 1) b1
    have HB1 := hide (HB.out.keep b1)
    have Hv1 := hide (But.on Hv.out b1)
    have Hb1 := hide (But.ofBelow b1 (fun i => i = g))
    go_wp2_with fail
    refine hK.out _ _ ?_ (fun hHeld => ?_)
    · exact ⟨HB1.out.cell 0, HB1.out.cell 1⟩
    clear hK K
    try simp only [Act.put, List.setIfInBounds_toArray, List.set_cons_zero, List.set_cons_succ]
    refine wpAnyH_take (i := 9) (oi := { dst := some 6, op := _, type := _, pos := _, after := _, guard := _ }) (v := ?v2x10) rfl (by kernel_rfl) (by kernel_rfl) (by kernel_rfl) (fun _ _ _ h => h) (Or.inl ⟨by rfl, ?hy2x10⟩) hHeld ?rest2x10
    case hy2x10 => (intro w hSw; go_simp <;> with_reducible rfl)
    try simp only [Act.put, List.setIfInBounds_toArray, List.set_cons_zero, List.set_cons_succ]
    refine wpAnyH_take (i := 10) (oi := { dst := some 16, op := _, type := _, pos := _, after := _, guard := _ }) (v := ?v2x11) rfl (by kernel_rfl) (by kernel_rfl) (by kernel_rfl) (fun _ _ _ h => h) (Or.inl ⟨by rfl, ?hy2x11⟩) hHeld ?rest2x11
    case hy2x11 => (intro w hSw; go_simp <;> with_reducible rfl)
    try simp only [Act.put, List.setIfInBounds_toArray, List.set_cons_zero, List.set_cons_succ]
    refine wpAnyH_take (i := 11) (oi := { dst := some 17, op := _, type := _, pos := _, after := _, guard := _ }) (v := ?v2x12) rfl (by kernel_rfl) (by kernel_rfl) (by kernel_rfl) (fun _ _ _ h => h) (Or.inl ⟨by rfl, ?hy2x12⟩) hHeld ?rest2x12
    case hy2x12 => (intro w hSw; go_simp <;> with_reducible rfl)
    try simp only [Act.put, List.setIfInBounds_toArray, List.set_cons_zero, List.set_cons_succ]
    refine wpAnyH_take (i := 12) (oi := { dst := some 18, op := _, type := _, pos := _, after := _, guard := _ }) (v := ?v2x13) rfl (by kernel_rfl) (by kernel_rfl) (by kernel_rfl) (fun _ _ _ h => h) (Or.inl ⟨by rfl, ?hy2x13⟩) hHeld ?rest2x13
    case hy2x13 => (intro w hSw; go_simp <;> with_reducible rfl)
    try simp only [Act.put, List.setIfInBounds_toArray, List.set_cons_zero, List.set_cons_succ]
    refine wpAnyH_take (i := 13) (oi := { dst := some 3, op := _, type := _, pos := _, after := _, guard := _ }) (v := ?v2x14) rfl (by kernel_rfl) (by kernel_rfl) (by kernel_rfl) (fun _ _ _ h => h) (Or.inl ⟨by rfl, ?hy2x14⟩) hHeld ?rest2x14
    case hy2x14 => (intro w hSw; go_simp <;> with_reducible rfl)
    try simp only [Act.put, List.setIfInBounds_toArray, List.set_cons_zero, List.set_cons_succ]
    refine wpAnyH_take (i := 14) (oi := { dst := some 4, op := _, type := _, pos := _, after := _, guard := _ }) (v := ?v2x15) rfl (by kernel_rfl) (by kernel_rfl) (by kernel_rfl) (fun _ _ _ h => h) (Or.inl ⟨by rfl, ?hy2x15⟩) hHeld ?rest2x15
    case hy2x15 => (intro w hSw; go_simp <;> with_reducible rfl)
    try simp only [Act.put, List.setIfInBounds_toArray, List.set_cons_zero, List.set_cons_succ]
    refine wpAnyH_take (i := 15) (oi := { dst := some 5, op := _, type := _, pos := _, after := _, guard := _ }) (v := ?v2x16) rfl (by kernel_rfl) (by kernel_rfl) (by kernel_rfl) (fun _ _ _ h => h) (Or.inl ⟨by rfl, ?hy2x16⟩) hHeld ?rest2x16
    case hy2x16 => (intro w hSw; go_simp <;> with_reducible rfl)
    try simp only [Act.put, List.setIfInBounds_toArray, List.set_cons_zero, List.set_cons_succ]
    refine wpAnyH_done (by kernel_rfl) ?_ _
    go_wp2_with fail
    refine (must_no _ _).mono ?_
    rintro e w2 ⟨rfl, rfl⟩
    go_wp2_with fail
    exact ⟨rfl, rfl, Hv1.out⟩

end Go.Proofs.Ytkgidimaiedocaa

namespace Go.Proofs.Ytkgidimaiedocaa
set_option linter.unusedVariables false
set_option linter.unusedSimpArgs false
open Go.RowKit

/-- What the reading of fields into the packet in block gp comes to. -/
def FPost (v : Bs) (xs : List UInt8) (A : Option Addr) (n k g gp : Nat) (o : Option (Pk × List UInt8)) (e : Ending) (w' : World) : Prop := match o with
  | none => e = .panicked gvP ∧ But v.S v.v w'
  | some z => e = .returned (.tuple #[]) ∧ RrS v xs A n k g z.2 w' ∧ ∃ C nc kc S ns ks, Blk w' gp 35 (pkVs z.1 C nc kc S ns ks) ∧ NewAt v.v C ∧ NewAt v.v S ∧ PkM w' z.1 C nc kc S ns ks
/-- A packet that is read into. -/
def PkZ (w : World) (gp : Nat) (p : Pk) : Prop := Blk w gp 35 (pkVs p none 0 0 none 0 0)
theorem PkZ.but {w w' : World} {g gp : Nat} {p : Pk} (h : PkZ w gp p) (b : But (fun i => i = g) w w') (hne : ¬ gp = g) : PkZ w' gp p := (b.block gp h.lt hne).trans h
theorem RrS.other {v : Bs} {w w' : World} {xs : List UInt8} {A : Option Addr} {n k g gp : Nat} {ys : List UInt8} (h : RrS v xs A n k g ys w) (b : But (fun i => i = gp) w w') (hne : ¬ gp = g) (hvp : v.S gp) : RrS v xs A n k g ys w' := by
  obtain ⟨i, hB, hi, hd, hg, hv⟩ := h
  exact ⟨i, (b.block g hB.lt (fun e => hne e.symm)).trans hB, hi, hd, hg, hv.trans b (fun i _ e => by rw [e]; exact hvp)⟩
theorem PkZ.frozen {w : World} {gp : Nat} {p : Pk} (h : PkZ w gp p) (i : Nat) : w.frozen? ⟨gp, i, none⟩ = false := Blk.frozen h i

theorem RrS.keep {v : Bs} {w w' : World} {xs : List UInt8} {A : Option Addr} {n k g : Nat} {ys : List UInt8} (h : RrS v xs A n k g ys w) (b : Below w.heap.size w w') : RrS v xs A n k g ys w' := by
  obtain ⟨i, hB, hi, hd, hg, hv⟩ := h
  exact ⟨i, hB.keep b, hi, hd, hg, But.on hv b⟩
theorem RrPost.ok {α : Type} {f : FuncId} {args : Array Value} {w0 : World} {v : Bs} {xs : List UInt8} {A : Option Addr} {n k g : Nat} {o : Option (α × List UInt8)} {val : α → Value} {w : World} (h : Calls Try.prog f args w0 (RrPost v xs A n k g o val w)) {x : α} {t : List UInt8} (hq : o = some (x, t)) : Calls Try.prog f args w0 fun e w' => e = .returned (val x) ∧ RrS v xs A n k g t w' ∧ But (fun i => i = g) w w' := by
  rw [hq] at h
  exact h
theorem RrPost.no {α : Type} {f : FuncId} {args : Array Value} {w0 : World} {v : Bs} {xs : List UInt8} {A : Option Addr} {n k g : Nat} {o : Option (α × List UInt8)} {val : α → Value} {w : World} (h : Calls Try.prog f args w0 (RrPost v xs A n k g o val w)) (hq : o = none) : Calls Try.prog f args w0 fun e w' => e = .panicked gvP ∧ But v.S v.v w' := by
  rw [hq] at h
  exact h
theorem RrS.low {v : Bs} {w : World} {xs : List UInt8} {A : Option Addr} {n k g : Nat} {ys : List UInt8} (h : RrS v xs A n k g ys w) : But v.S v.v w := by
  obtain ⟨i, -, -, -, -, hv⟩ := h
  exact hv
theorem decF {a b : Int} (h : ¬ a ≤ b) : decide (a ≤ b) = false := decide_eq_false h

set_option maxRecDepth 100000 in
set_option maxHeartbeats 1000000 in
theorem rrWelcome_any (v : Bs) (xs : List UInt8) (A : Option Addr) (n k g gp : Nat) (ys : List UInt8) (w : World) (hb : RrB v xs A n k) (h : RrS v xs A n k g ys w) (hp : PkZ w gp (zeroP 2)) (hne : ¬ gp = g) (hvp : v.S gp) : Calls Try.prog 134 #[.pointer (some ⟨g, 0, none⟩), .pointer (some ⟨gp, 0, none⟩)] w (FPost v xs A n k g gp (welQ ys)) := by
  have P1 := rrOctet_any v xs A n k g ys w hb h
  have HP := hide hp
  clear h hp
  unfold welQ
  cases hq1 : qB ys with
  | none =>
    have Q1 := hide (RrPost.no P1 hq1)
    clear P1 hq1
    show Calls _ _ _ _ fun e w' => e = .panicked gvP ∧ But v.S v.v w'
    go_enter Try.func134, Try.ntmps134
    go_wp2_with fail
    refine Q1.out.mono ?_
    rintro e w1 ⟨rfl, hv1⟩
    go_wp2_with fail
    exact ⟨rfl, rfl, hv1⟩
  | some z =>
    obtain ⟨hd, y1⟩ := z
    have Q1 := hide (RrPost.ok P1 hq1)
    clear P1 hq1
    simp only [Option.bind_some]
    by_cases h1 : hd ≤ 1
    · rw [if_pos h1]
      have q1 : (hd : Int) ≤ 1 := by omega
      have P2 := fun W hW => rrOctet_any v xs A n k g y1 W hb hW
      have HD := hide (show ((hd : Int) == 1) = decide (hd = 1) by by_cases e : hd = 1 <;> simp [e] <;> omega)
      cases hq2 : qB y1 with
      | none =>
        have Q2 := fun W hW => hide (RrPost.no (P2 W hW) hq2)
        show Calls _ _ _ _ fun e w' => e = .panicked gvP ∧ But v.S v.v w'
        clear P2 hq2 h1
        go_enter Try.func134, Try.ntmps134
        go_wp2_with fail
        refine Q1.out.mono ?_
        rintro e w1 ⟨rfl, s1, b1⟩
        have HP1 := HP.out.but b1 hne
        have c15 := (Blk.p18 HP1).2.2.2.2.2.2.2.2.2.2.2.2.2.2.2.1
        have f15 := HP1.frozen 15
        have HP1 := hide HP1
        go_wp2_with fail
        refine (must_ok _ _).mono ?_
        rintro e w2 ⟨rfl, rfl⟩
        go_wp2_with fail
        refine (Q2 _ (s1.other (But.setCell _ _ rfl) hne hvp)).out.mono ?_
        rintro e w1 ⟨rfl, hv1⟩
        go_wp2_with fail
        exact ⟨rfl, rfl, hv1⟩
      | some z2 =>
        obtain ⟨c, y2⟩ := z2
        have Q2 := fun W hW => hide (RrPost.ok (P2 W hW) hq2)
        clear P2 hq2 h1
        show Calls _ _ _ _ fun e w' => e = .returned (.tuple #[]) ∧ RrS v xs A n k g y2 w' ∧ ∃ C nc kc S ns ks, Blk w' gp 35 (pkVs { zeroP 2 with present := decide (hd = 1), codes := [(c : Int)] } C nc kc S ns ks) ∧ NewAt v.v C ∧ NewAt v.v S ∧ PkM w' { zeroP 2 with present := decide (hd = 1), codes := [(c : Int)] } C nc kc S ns ks
        go_enter Try.func134, Try.ntmps134
        go_wp2_with fail
        refine Q1.out.mono ?_
        rintro e w1 ⟨rfl, s1, b1⟩
        have HP1 := HP.out.but b1 hne
        have c15 := (Blk.p18 HP1).2.2.2.2.2.2.2.2.2.2.2.2.2.2.2.1
        have f15 := HP1.frozen 15
        have HP1 := hide HP1
        go_wp2_with fail
        refine (must_ok _ _).mono ?_
        rintro e w2 ⟨rfl, rfl⟩
        go_wp2_with fail
        refine (Q2 _ (s1.other (But.setCell _ _ rfl) hne hvp)).out.mono ?_
        rintro e w2 ⟨rfl, s2, b2⟩
        have HP2 := PkZ.but (p := { zeroP 2 with present := decide (hd = 1) }) (show PkZ _ gp _ from by unfold PkZ; rw [← HD.out]; exact Blk.set HP1.out 15 _) b2 hne
        have c16 := (Blk.p18 HP2).2.2.2.2.2.2.2.2.2.2.2.2.2.2.2.2.1
        have f16 := HP2.frozen 16
        have l2 := Blk.lt HP2
        have HP2 := hide HP2
        go_wp2_with fail
        go_end0
        have hsz : ∀ u, (w2.setCell ⟨gp, 16, none⟩ u).heap.size = w2.heap.size := fun u => by simp
        refine ⟨rfl, (s2.other (But.setCell _ _ rfl) hne hvp).keep ((Below.refl _ _).alloc (Nat.le_refl _) _), some ⟨w2.heap.size, 0, none⟩, 1, 1, none, 0, 0, Blk.keep (Blk.set HP2.out 16 _) ((Below.refl _ _).alloc (Nat.le_refl _) _), (fun b o e => by injection e with e; injection e with e1; rw [← e1]; exact s2.low.size), NewAt.nil _, rfl, Nat.le_refl _, ?_, rfl, Nat.le_refl _, Rd.nil _ _⟩
        have := (Blk.new (w2.setCell ⟨gp, 16, none⟩ (.slice (some ⟨w2.heap.size, 0, none⟩) 1 1)) 3 [.int .i64 (c : Int)]).rd
        rw [hsz] at this
        exact this
    · rw [if_neg h1]
      have q1 : decide ((hd : Int) ≤ 1) = false := decF (by omega)
      show Calls _ _ _ _ fun e w' => e = .panicked gvP ∧ But v.S v.v w'
      go_enter Try.func134, Try.ntmps134
      go_wp2_with fail
      refine Q1.out.mono ?_
      rintro e w1 ⟨rfl, s1, b1⟩
      have hv1 := s1.low
      go_wp2_with fail
      refine (must_no _ _).mono ?_
      rintro e w2 ⟨rfl, rfl⟩
      go_wp2_with fail
      exact ⟨rfl, rfl, hv1⟩

end Go.Proofs.Ytkgidimaiedocaa

namespace Go.Proofs.Ytkgidimaiedocaa
set_option linter.unusedVariables false
set_option linter.unusedSimpArgs false
open Go.RowKit

theorem and_digN (f W : Nat) (hf : f < 256) (hW : W = 1 ∨ W = 2 ∨ W = 4 ∨ W = 8 ∨ W = 32 ∨ W = 64 ∨ W = 128) : ((f &&& W : Nat) != 0) = digB f W := by
  have h : ∀ W : Fin 129, (W.val = 1 ∨ W.val = 2 ∨ W.val = 4 ∨ W.val = 8 ∨ W.val = 32 ∨ W.val = 64 ∨ W.val = 128) → ∀ f : Fin 256, ((f.val &&& W.val : Nat) != 0) = digB f.val W.val := by decide +kernel
  exact h ⟨W, by omega⟩ hW ⟨f, hf⟩
theorem and_dig (f W : Nat) (hf : f < 256) (hW : W = 1 ∨ W = 2 ∨ W = 4 ∨ W = 8 ∨ W = 32 ∨ W = 64 ∨ W = 128) : (bits .and .i64 (f : Int) (W : Int) != 0) = digB f W := by
  rw [i64_and_nat f W (by omega) (by omega), ← and_digN f W hf hW]
  by_cases h : (f &&& W : Nat) = 0
  · rw [h]; rfl
  · have h2 : ¬ ((f &&& W : Nat) : Int) = 0 := by omega
    rw [bne_iff_ne.2 h, bne_iff_ne.2 h2]

theorem RrS.set {v : Bs} {w : World} {xs : List UInt8} {A : Option Addr} {n k g gp : Nat} {ys : List UInt8} (h : RrS v xs A n k g ys w) (hne : ¬ gp = g) (hvp : v.S gp) (i : Nat) (u : Value) : RrS v xs A n k g ys (w.setCell ⟨gp, i, none⟩ u) := h.other (But.setCell w u rfl) hne hvp

set_option maxRecDepth 100000 in
set_option maxHeartbeats 1000000 in
theorem rrPublish_any (v : Bs) (xs : List UInt8) (A : Option Addr) (n k g gp low : Nat) (ys : List UInt8) (w : World) (hl : low < 16) (hb : RrB v xs A n k) (h : RrS v xs A n k g ys w) (hp : PkZ w gp (zeroP 3)) (hne : ¬ gp = g) (hvp : v.S gp) : Calls Try.prog 135 #[.pointer (some ⟨g, 0, none⟩), .pointer (some ⟨gp, 0, none⟩), .int .i64 (low : Int)] w (FPost v xs A n k g gp (pubQ low ys)) := by
  have HP := hide hp
  have e8 : (bits .and .i64 (low : Int) 8 != 0) = digB low 8 := and_dig low 8 (by omega) (by omega)
  have e1 : (bits .and .i64 (low : Int) 1 != 0) = digB low 1 := and_dig low 1 (by omega) (by omega)
  obtain ⟨q, hq⟩ : ∃ q, low / 2 % 4 = q := ⟨_, rfl⟩
  have e2 : (low : Int) / 2 % 4 = (q : Int) := by omega
  have HS := hide h
  obtain ⟨O, hO⟩ : ∃ O, pubQ low ys = O := ⟨_, rfl⟩
  rw [hO]
  unfold pubQ at hO
  rw [hq] at hO
  clear h hp hq
  generalize digB low 8 = D at *
  generalize digB low 1 = R at *
  have HO := hide hO
  clear hO
  go_enter Try.func135, Try.ntmps135
  have c1 := (Blk.p18 HP.out).2.1
  have c5 := (Blk.p18 HP.out).2.2.2.2.2.1
  have c6 := (Blk.p18 HP.out).2.2.2.2.2.2.1
  have f1 := HP.out.frozen 1
  have f5 := HP.out.frozen 5
  have f6 := HP.out.frozen 6
  go_wp2_with fail
  obtain ⟨U, hU⟩ : ∃ U, (((w.setCell ⟨gp, 1, none⟩ (.bool D)).setCell ⟨gp, 5, none⟩ (.int .i64 (q : Int))).setCell ⟨gp, 6, none⟩ (.bool R)) = U := ⟨_, rfl⟩
  rw [hU]
  have HP := hide (show PkZ U gp { zeroP 3 with dup := D, qos := (q : Int), retain := R } from by rw [← hU]; exact Blk.set (Blk.set (Blk.set HP.out 1 _) 5 _) 6 _)
  have HS := hide (show RrS v xs A n k g ys U from by rw [← hU]; exact ((HS.out.set hne hvp 1 _).set hne hvp 5 _).set hne hvp 6 _)
  clear hU c1 c5 c6 f1 f5 f6 e8 e1 e2
  have P1 := rrText_any v xs A n k g ys U hb HS.out
  cases hq1 : qT ys with
  | none =>
    have h0 : O = none := by rw [← HO.out, hq1]; rfl
    refine (RrPost.no P1 hq1).mono ?_
    rintro e w1 ⟨rfl, hv1⟩
    go_wp2_with fail
    all_goals first | exact ⟨rfl, rfl, hv1⟩ | exact ⟨rfl, by rw [h0]; exact ⟨rfl, hv1⟩⟩
  | some z =>
    obtain ⟨tp, y1⟩ := z
    refine (RrPost.ok P1 hq1).mono ?_
    rintro e w1 ⟨rfl, s1, b1⟩
    have HP := hide (HP.out.but b1 hne)
    have HS := hide s1
    have HQ1 := hide hq1
    clear s1 b1 P1 hq1
    have c3 := (Blk.p18 HP.out).2.2.2.1
    have c5 := (Blk.p18 HP.out).2.2.2.2.2.1
    have f3 := HP.out.frozen 3
    by_cases hq0 : 0 < q
    · have q0 : (q : Int) > 0 := by omega
      go_wp2_with fail
      obtain ⟨U2, hU⟩ : ∃ U2, (w1.setCell ⟨gp, 3, none⟩ (.string (str tp))) = U2 := ⟨_, rfl⟩
      rw [hU]
      have HP := hide (show PkZ U2 gp { zeroP 3 with dup := D, qos := (q : Int), retain := R, topic := tp } from by rw [← hU]; exact Blk.set HP.out 3 _)
      have HS := hide (show RrS v xs A n k g y1 U2 from by rw [← hU]; exact HS.out.set hne hvp 3 _)
      clear hU c3 c5 f3
      have P1 := rrWord_any v xs A n k g y1 U2 hb HS.out
      cases hq1 : qW y1 with
      | none =>
        have h0 : O = none := by rw [← HO.out, HQ1.out]; simp only [Option.bind_some, if_pos hq0]; rw [hq1]; rfl
        refine (RrPost.no P1 hq1).mono ?_
        rintro e w1 ⟨rfl, hv1⟩
        go_wp2_with fail
        all_goals first | exact ⟨rfl, rfl, hv1⟩ | exact ⟨rfl, by rw [h0]; exact ⟨rfl, hv1⟩⟩
      | some z =>
        obtain ⟨d, y2⟩ := z
        refine (RrPost.ok P1 hq1).mono ?_
        rintro e w1 ⟨rfl, s1, b1⟩
        have HP := hide (HP.out.but b1 hne)
        have HS := hide s1
        have h0 : O = some ({ zeroP 3 with dup := D, qos := (q : Int), retain := R, topic := tp, id := (d : Int), payload := y2 }, []) := by rw [← HO.out, HQ1.out]; simp only [Option.bind_some, if_pos hq0]; rw [hq1]; rfl
        clear s1 b1 P1 hq1
        have c2 := (Blk.p18 HP.out).2.2.1
        have f2 := HP.out.frozen 2
        go_wp2_with fail
        obtain ⟨U3, hU⟩ : ∃ U3, (w1.setCell ⟨gp, 2, none⟩ (.int .i64 (d : Int))) = U3 := ⟨_, rfl⟩
        rw [hU]
        have HP := hide (show PkZ U3 gp { zeroP 3 with dup := D, qos := (q : Int), retain := R, topic := tp, id := (d : Int) } from by rw [← hU]; exact Blk.set HP.out 2 _)
        have HS := hide (show RrS v xs A n k g y2 U3 from by rw [← hU]; exact HS.out.set hne hvp 2 _)
        clear hU c2 f2
        refine (rrRest_any v xs A n k g y2 U3 hb HS.out).mono ?_
        rintro e w1 ⟨rfl, s1, b1⟩
        have HP := hide (HP.out.but b1 hne)
        have c4 := (Blk.p18 HP.out).2.2.2.2.1
        have f4 := HP.out.frozen 4
        go_wp2_with fail
        go_end0
        rw [h0]
        exact ⟨rfl, s1.set hne hvp 4 _, none, 0, 0, none, 0, 0, Blk.set HP.out 4 _, NewAt.nil _, NewAt.nil _, rfl, Nat.le_refl _, Rd.nil _ _, rfl, Nat.le_refl _, Rd.nil _ _⟩
    · obtain rfl : q = 0 := by omega
      go_wp2_with fail
      obtain ⟨U2, hU⟩ : ∃ U2, (w1.setCell ⟨gp, 3, none⟩ (.string (str tp))) = U2 := ⟨_, rfl⟩
      rw [hU]
      have HP := hide (show PkZ U2 gp { zeroP 3 with dup := D, qos := ((0 : Nat) : Int), retain := R, topic := tp } from by rw [← hU]; exact Blk.set HP.out 3 _)
      have HS := hide (show RrS v xs A n k g y1 U2 from by rw [← hU]; exact HS.out.set hne hvp 3 _)
      clear hU c3 c5 f3
      have h0 : O = some ({ zeroP 3 with dup := D, qos := ((0 : Nat) : Int), retain := R, topic := tp, id := ((0 : Nat) : Int), payload := y1 }, []) := by rw [← HO.out, HQ1.out]; simp only [Option.bind_some, if_neg (show ¬ 0 < 0 by omega)]
      refine (rrRest_any v xs A n k g y1 U2 hb HS.out).mono ?_
      rintro e w1 ⟨rfl, s1, b1⟩
      have HP := hide (HP.out.but b1 hne)
      have c4 := (Blk.p18 HP.out).2.2.2.2.1
      have f4 := HP.out.frozen 4
      go_wp2_with fail
      go_end0
      rw [h0]
      exact ⟨rfl, s1.set hne hvp 4 _, none, 0, 0, none, 0, 0, Blk.set HP.out 4 _, NewAt.nil _, NewAt.nil _, rfl, Nat.le_refl _, Rd.nil _ _, rfl, Nat.le_refl _, Rd.nil _ _⟩

end Go.Proofs.Ytkgidimaiedocaa

namespace Go.Proofs.Ytkgidimaiedocaa
set_option linter.unusedVariables false
set_option linter.unusedSimpArgs false
open Go.RowKit

theorem digFit (f : Nat) (hf : f < 256) : ((f : Int) / 8 % 4) = ((f / 8 % 4 : Nat) : Int) := by omega
/-- A Connect whose byte is f. -/
def conZ (D2 D4 D32 D64 D128 : Bool) (q : Nat) : Pk := ⟨1, false, 0, [], [], (q : Int), D32, [], D2, 0, D4, D128, D64, [], [], false, [], []⟩
/-- What is read behind Alive. -/
def conE (Z : Pk) (D4 D64 D128 : Bool) (ys : List UInt8) : Option (Pk × List UInt8) :=
  (qT ys).bind fun cl => (oT D4 cl.2).bind fun tp => (oT D4 tp.2).bind fun pl => (oT D128 pl.2).bind fun us => (oT D64 us.2).bind fun ps =>
    some ({ Z with topic := tp.1, payload := pl.1, client := cl.1, user := us.1, pass := ps.1 }, ps.2)

theorem oT_true (ys : List UInt8) : oT true ys = qT ys := rfl
theorem oT_false (ys : List UInt8) : oT false ys = some ([], ys) := rfl

set_option maxRecDepth 100000 in
set_option maxHeartbeats 4000000 in
theorem rrConnect_any (v : Bs) (xs : List UInt8) (A : Option Addr) (n k g gp : Nat) (ys : List UInt8) (w : World) (hb : RrB v xs A n k) (h : RrS v xs A n k g ys w) (hp : PkZ w gp (zeroP 1)) (hne : ¬ gp = g) (hvp : v.S gp) : Calls Try.prog 133 #[.pointer (some ⟨g, 0, none⟩), .pointer (some ⟨gp, 0, none⟩)] w (FPost v xs A n k g gp (conQ ys)) := by
  have HP := hide hp
  obtain ⟨O, hO⟩ : ∃ O, conQ ys = O := ⟨_, rfl⟩
  rw [hO]
  unfold conQ at hO
  have HO := hide hO
  have P1 := rrText_any v xs A n k g ys w hb h
  clear h hp hO
  go_enter Try.func133, Try.ntmps133
  go_wp2_with fail
  cases hq1 : qT ys with
  | none =>
    have h0 : O = none := by rw [← HO.out, hq1]; rfl
    refine (RrPost.no P1 hq1).mono ?_
    rintro e w1 ⟨rfl, hv1⟩
    go_wp2_with fail
    all_goals first | exact ⟨rfl, rfl, hv1⟩ | exact ⟨rfl, by rw [h0]; exact ⟨rfl, hv1⟩⟩
  | some z =>
  obtain ⟨s, y1⟩ := z
  rw [hq1] at HO
  simp only [Option.bind_some] at HO
  refine (RrPost.ok P1 hq1).mono ?_
  by_cases hs : s = [77, 81, 84, 84]
  case neg =>
    have h0 : O = none := by rw [← HO.out, if_neg hs]
    have q1 : (s == [77, 81, 84, 84]) = false := by simpa using hs
    rintro e w1 ⟨rfl, s1, b1⟩
    have HP := hide (HP.out.but b1 hne)
    have HS := hide s1
    have hv1 := s1.low
    clear s1 b1
    go_wp2_with fail
    refine (must_no _ _).mono ?_
    rintro e w2 ⟨rfl, rfl⟩
    go_wp2_with fail
    all_goals first | exact ⟨rfl, rfl, hv1⟩ | exact ⟨rfl, by rw [h0]; exact ⟨rfl, hv1⟩⟩
  case pos =>
  subst hs
  rw [if_pos rfl] at HO
  clear P1 hq1
  rintro e w1 ⟨rfl, s1, b1⟩
  have HP := hide (HP.out.but b1 hne)
  have HS := hide s1
  clear s1 b1
  go_wp2_with fail
  refine (must_ok _ _).mono ?_
  rintro e w2 ⟨rfl, rfl⟩
  go_wp2_with fail
  have P1 := rrOctet_any v xs A n k g y1 _ hb HS.out
  cases hq1 : qB y1 with
  | none =>
    have h0 : O = none := by rw [← HO.out, hq1]; rfl
    refine (RrPost.no P1 hq1).mono ?_
    rintro e w1 ⟨rfl, hv1⟩
    go_wp2_with fail
    all_goals first | exact ⟨rfl, rfl, hv1⟩ | exact ⟨rfl, by rw [h0]; exact ⟨rfl, hv1⟩⟩
  | some z =>
  obtain ⟨l, y2⟩ := z
  rw [hq1] at HO
  simp only [Option.bind_some] at HO
  refine (RrPost.ok P1 hq1).mono ?_
  by_cases hl : l = 4
  case neg =>
    have h0 : O = none := by rw [← HO.out, if_neg hl]
    have q1 : ((l : Int) == 4) = false := by simp; omega
    rintro e w1 ⟨rfl, s1, b1⟩
    have HP := hide (HP.out.but b1 hne)
    have HS := hide s1
    have hv1 := s1.low
    clear s1 b1
    go_wp2_with fail
    refine (must_no _ _).mono ?_
    rintro e w2 ⟨rfl, rfl⟩
    go_wp2_with fail
    all_goals first | exact ⟨rfl, rfl, hv1⟩ | exact ⟨rfl, by rw [h0]; exact ⟨rfl, hv1⟩⟩
  case pos =>
  subst hl
  rw [if_pos rfl] at HO
  clear P1 hq1
  rintro e w1 ⟨rfl, s1, b1⟩
  have HP := hide (HP.out.but b1 hne)
  have HS := hide s1
  clear s1 b1
  go_wp2_with fail
  refine (must_ok _ _).mono ?_
  rintro e w2 ⟨rfl, rfl⟩
  go_wp2_with fail
  have P1 := rrOctet_any v xs A n k g y2 _ hb HS.out
  cases hq1 : qB y2 with
  | none =>
    have h0 : O = none := by rw [← HO.out, hq1]; rfl
    refine (RrPost.no P1 hq1).mono ?_
    rintro e w1 ⟨rfl, hv1⟩
    go_wp2_with fail
    all_goals first | exact ⟨rfl, rfl, hv1⟩ | exact ⟨rfl, by rw [h0]; exact ⟨rfl, hv1⟩⟩
  | some z =>
  obtain ⟨f, y3⟩ := z
  have hf := (qB_some hq1).2
  simp only at hf
  rw [hq1] at HO
  simp only [Option.bind_some] at HO
  refine (RrPost.ok P1 hq1).mono ?_
  rintro e w1 ⟨rfl, s1, b1⟩
  have HP := hide (HP.out.but b1 hne)
  have HS := hide s1
  clear s1 b1 P1 hq1
  have e2 : (bits .and .i64 (f : Int) 2 != 0) = digB f 2 := and_dig f 2 hf (by omega)
  have e4 : (bits .and .i64 (f : Int) 4 != 0) = digB f 4 := and_dig f 4 hf (by omega)
  have e32 : (bits .and .i64 (f : Int) 32 != 0) = digB f 32 := and_dig f 32 hf (by omega)
  have e64 : (bits .and .i64 (f : Int) 64 != 0) = digB f 64 := and_dig f 64 hf (by omega)
  have e128 : (bits .and .i64 (f : Int) 128 != 0) = digB f 128 := and_dig f 128 hf (by omega)
  have eq := digFit f hf
  have hZ : conP f = conZ (digB f 2) (digB f 4) (digB f 32) (digB f 64) (digB f 128) (f / 8 % 4) := rfl
  rw [hZ] at HO
  have hq3 : f / 8 % 4 ≤ 3 := by omega
  clear hZ
  generalize digB f 2 = D2 at *
  generalize digB f 4 = D4 at *
  generalize digB f 32 = D32 at *
  generalize digB f 64 = D64 at *
  generalize digB f 128 = D128 at *
  generalize f / 8 % 4 = q at *
  obtain ⟨-, -, -, -, -, c5, c6, -, c8, -, c10, c11, c12, -, -, -, -, -⟩ := Blk.p18 HP.out
  have f5 := HP.out.frozen 5
  have f6 := HP.out.frozen 6
  have f8 := HP.out.frozen 8
  have f10 := HP.out.frozen 10
  have f11 := HP.out.frozen 11
  have f12 := HP.out.frozen 12
  go_upto_region 9 with fail
  obtain ⟨U, hU⟩ : ∃ U, ((((((w1.setCell ⟨gp, 8, none⟩ (.bool D2)).setCell ⟨gp, 10, none⟩ (.bool D4)).setCell ⟨gp, 5, none⟩ (.int .i64 (q : Int))).setCell ⟨gp, 6, none⟩ (.bool D32)).setCell ⟨gp, 12, none⟩ (.bool D64)).setCell ⟨gp, 11, none⟩ (.bool D128)) = U := ⟨_, rfl⟩
  rw [hU]
  have HP := hide (show PkZ U gp (conZ D2 D4 D32 D64 D128 q) from by rw [← hU]; exact Blk.set (Blk.set (Blk.set (Blk.set (Blk.set (Blk.set HP.out 8 _) 10 _) 5 _) 6 _) 12 _) 11 _)
  have HS := hide (show RrS v xs A n k g y3 U from by rw [← hU]; exact (((((HS.out.set hne hvp 8 _).set hne hvp 10 _).set hne hvp 5 _).set hne hvp 6 _).set hne hvp 12 _).set hne hvp 11 _)
  clear hU c5 c6 c8 c10 c11 c12 f5 f6 f8 f10 f11 f12 e2 e4 e32 e64 e128 eq
  refine wp_region_lit ?_
  refine wpList_mv rfl (.tmp 0) rfl ?_
  refine wpList_mv rfl (.tmp 1) rfl ?_
  refine wpList_nc rfl (.tmp 56) rfl ⟨gp, 0, none⟩ rfl ?_
  refine wpList_loadP rfl 35 (.tmp 57) rfl gp 35 (conZ D2 D4 D32 D64 D128 q) none 0 0 none 0 0 rfl HP.out Try.underlying35 rfl (by kernel_rfl) ?_
  have P1 := marks_any (conZ D2 D4 D32 D64 D128 q) none 0 0 none 0 0 U (by show (0 : Int) ≤ (q : Int); omega) (by show (q : Int) ≤ 3; omega)
  obtain ⟨N, hN⟩ : ∃ N, conFlags (conZ D2 D4 D32 D64 D128 q) = N := ⟨_, rfl⟩
  rw [hN] at P1 HO
  simp only [pkA, conZ] at P1 ⊢
  clear hN
  go_wp2_with fail
  refine P1.mono ?_
  rintro e w1 ⟨rfl, b1⟩
  have HP := hide (show PkZ w1 gp (conZ D2 D4 D32 D64 D128 q) from Blk.keep HP.out b1)
  have HS := hide (HS.out.keep b1)
  clear b1 P1
  by_cases hm : N = f
  case neg =>
    have h0 : O = none := by rw [← HO.out, if_neg hm]
    have q1 : ((N : Int) == (f : Int)) = false := by simp; omega
    have hv1 := HS.out.low
    go_wp2_with fail
    refine (must_no _ _).mono ?_
    rintro e w2 ⟨rfl, rfl⟩
    go_wp2_with fail
    all_goals first | exact ⟨rfl, rfl, hv1⟩ | exact ⟨rfl, by rw [h0]; exact ⟨rfl, hv1⟩⟩
  case pos =>
  subst hm
  rw [if_pos rfl] at HO
  go_wp2_with fail
  refine (must_ok _ _).mono ?_
  rintro e w2 ⟨rfl, rfl⟩
  go_wp2_with fail
  have P1 := rrWord_any v xs A n k g y3 _ hb HS.out
  cases hq1 : qW y3 with
  | none =>
    have h0 : O = none := by rw [← HO.out, hq1]; rfl
    refine (RrPost.no P1 hq1).mono ?_
    rintro e w1 ⟨rfl, hv1⟩
    go_wp2_with fail
    all_goals first | exact ⟨rfl, rfl, hv1⟩ | exact ⟨rfl, by rw [h0]; exact ⟨rfl, hv1⟩⟩
  | some z =>
  obtain ⟨al, y4⟩ := z
  rw [hq1] at HO
  simp only [Option.bind_some] at HO
  refine (RrPost.ok P1 hq1).mono ?_
  rintro e w1 ⟨rfl, s1, b1⟩
  have HP := hide (HP.out.but b1 hne)
  have HS := hide s1
  clear s1 b1 P1 hq1
  have ci := (Blk.p18 HP.out).2.2.2.2.2.2.2.2.2.1
  have fi := HP.out.frozen 9
  go_wp2_with fail
  obtain ⟨U2, hU⟩ : ∃ U2, (w1.setCell ⟨gp, 9, none⟩ (.int .i64 (al : Int))) = U2 := ⟨_, rfl⟩
  rw [hU]
  have HP := hide (show PkZ U2 gp ⟨1, false, 0, [], [], (q : Int), D32, [], D2, (al : Int), D4, D128, D64, [], [], false, [], []⟩ from by rw [← hU]; exact Blk.set HP.out 9 _)
  have HS := hide (show RrS v xs A n k g y4 U2 from by rw [← hU]; exact HS.out.set hne hvp 9 _)
  clear hU ci fi
  replace HO := hide (show conE ⟨1, false, 0, [], [], (q : Int), D32, [], D2, (al : Int), D4, D128, D64, [], [], false, [], []⟩ D4 D64 D128 y4 = O from HO.out)
  unfold conE at HO
  have P1 := rrText_any v xs A n k g y4 _ hb HS.out
  cases hq1 : qT y4 with
  | none =>
    have h0 : O = none := by rw [← HO.out, hq1]; rfl
    refine (RrPost.no P1 hq1).mono ?_
    rintro e w1 ⟨rfl, hv1⟩
    go_wp2_with fail
    all_goals first | exact ⟨rfl, rfl, hv1⟩ | exact ⟨rfl, by rw [h0]; exact ⟨rfl, hv1⟩⟩
  | some z =>
  obtain ⟨cl, y5⟩ := z
  rw [hq1] at HO
  simp only [Option.bind_some] at HO
  refine (RrPost.ok P1 hq1).mono ?_
  rintro e w1 ⟨rfl, s1, b1⟩
  have HP := hide (HP.out.but b1 hne)
  have HS := hide s1
  clear s1 b1 P1 hq1
  have c7 := (Blk.p18 HP.out).2.2.2.2.2.2.2.1
  have c10 := (Blk.p18 HP.out).2.2.2.2.2.2.2.2.2.2.1
  have c11 := (Blk.p18 HP.out).2.2.2.2.2.2.2.2.2.2.2.1
  have c12 := (Blk.p18 HP.out).2.2.2.2.2.2.2.2.2.2.2.2.1
  have f7 := HP.out.frozen 7
  cases D4 with
  | false =>
    simp only [oT_false, Option.bind_some] at HO
    cases D128 with
    | false =>
      simp only [oT_false, Option.bind_some] at HO
      cases D64 with
      | false =>
        simp only [oT_false, Option.bind_some] at HO
        go_wp2_with fail
        go_end0
        rw [← HO.out]
        exact ⟨rfl, HS.out.set hne hvp 7 _, none, 0, 0, none, 0, 0, Blk.set HP.out 7 _, NewAt.nil _, NewAt.nil _, rfl, Nat.le_refl _, Rd.nil _ _, rfl, Nat.le_refl _, Rd.nil _ _⟩
      | true =>
        go_wp2_with fail
        obtain ⟨V1, hU⟩ : ∃ V1, (w1.setCell ⟨gp, 7, none⟩ (.string (str cl))) = V1 := ⟨_, rfl⟩
        rw [hU]
        have HP := hide (show PkZ V1 gp ⟨1, false, 0, [], [], (q : Int), D32, cl, D2, (al : Int), false, false, true, [], [], false, [], []⟩ from by rw [← hU]; exact Blk.set HP.out 7 _)
        have HS := hide (show RrS v xs A n k g y5 V1 from by rw [← hU]; exact HS.out.set hne hvp 7 _)
        clear hU f7 c7
        have P1 := rrText_any v xs A n k g y5 _ hb HS.out
        try simp only [oT_true] at HO
        cases hq1 : qT y5 with
        | none =>
          have h0 : O = none := by rw [← HO.out, hq1]; rfl
          refine (RrPost.no P1 hq1).mono ?_
          rintro e w1 ⟨rfl, hv1⟩
          go_wp2_with fail
          all_goals first | exact ⟨rfl, rfl, hv1⟩ | exact ⟨rfl, by rw [h0]; exact ⟨rfl, hv1⟩⟩
        | some z =>
        obtain ⟨ps, y5d⟩ := z
        rw [hq1] at HO
        simp only [Option.bind_some] at HO
        refine (RrPost.ok P1 hq1).mono ?_
        rintro e w1 ⟨rfl, s1, b1⟩
        have HP := hide (HP.out.but b1 hne)
        have HS := hide s1
        clear s1 b1 P1 hq1
        have c14 := (Blk.p18 HP.out).2.2.2.2.2.2.2.2.2.2.2.2.2.2.1
        have f14 := HP.out.frozen 14
        go_wp2_with fail
        go_end0
        rw [← HO.out]
        exact ⟨rfl, HS.out.set hne hvp 14 _, none, 0, 0, none, 0, 0, Blk.set HP.out 14 _, NewAt.nil _, NewAt.nil _, rfl, Nat.le_refl _, Rd.nil _ _, rfl, Nat.le_refl _, Rd.nil _ _⟩
    | true =>
      go_wp2_with fail
      obtain ⟨V2, hU⟩ : ∃ V2, (w1.setCell ⟨gp, 7, none⟩ (.string (str cl))) = V2 := ⟨_, rfl⟩
      rw [hU]
      have HP := hide (show PkZ V2 gp ⟨1, false, 0, [], [], (q : Int), D32, cl, D2, (al : Int), false, true, D64, [], [], false, [], []⟩ from by rw [← hU]; exact Blk.set HP.out 7 _)
      have HS := hide (show RrS v xs A n k g y5 V2 from by rw [← hU]; exact HS.out.set hne hvp 7 _)
      clear hU f7 c7
      have P1 := rrText_any v xs A n k g y5 _ hb HS.out
      try simp only [oT_true] at HO
      cases hq1 : qT y5 with
      | none =>
        have h0 : O = none := by rw [← HO.out, hq1]; rfl
        refine (RrPost.no P1 hq1).mono ?_
        rintro e w1 ⟨rfl, hv1⟩
        go_wp2_with fail
        all_goals first | exact ⟨rfl, rfl, hv1⟩ | exact ⟨rfl, by rw [h0]; exact ⟨rfl, hv1⟩⟩
      | some z =>
      obtain ⟨us, y5c⟩ := z
      rw [hq1] at HO
      simp only [Option.bind_some] at HO
      refine (RrPost.ok P1 hq1).mono ?_
      rintro e w1 ⟨rfl, s1, b1⟩
      have HP := hide (HP.out.but b1 hne)
      have HS := hide s1
      clear s1 b1 P1 hq1
      have c12 := (Blk.p18 HP.out).2.2.2.2.2.2.2.2.2.2.2.2.1
      have c13 := (Blk.p18 HP.out).2.2.2.2.2.2.2.2.2.2.2.2.2.1
      have f13 := HP.out.frozen 13
      cases D64 with
      | false =>
        simp only [oT_false, Option.bind_some] at HO
        go_wp2_with fail
        go_end0
        rw [← HO.out]
        exact ⟨rfl, HS.out.set hne hvp 13 _, none, 0, 0, none, 0, 0, Blk.set HP.out 13 _, NewAt.nil _, NewAt.nil _, rfl, Nat.le_refl _, Rd.nil _ _, rfl, Nat.le_refl _, Rd.nil _ _⟩
      | true =>
        go_wp2_with fail
        obtain ⟨V3, hU⟩ : ∃ V3, (w1.setCell ⟨gp, 13, none⟩ (.string (str us))) = V3 := ⟨_, rfl⟩
        rw [hU]
        have HP := hide (show PkZ V3 gp ⟨1, false, 0, [], [], (q : Int), D32, cl, D2, (al : Int), false, true, true, us, [], false, [], []⟩ from by rw [← hU]; exact Blk.set HP.out 13 _)
        have HS := hide (show RrS v xs A n k g y5c V3 from by rw [← hU]; exact HS.out.set hne hvp 13 _)
        clear hU f13 c13
        have P1 := rrText_any v xs A n k g y5c _ hb HS.out
        try simp only [oT_true] at HO
        cases hq1 : qT y5c with
        | none =>
          have h0 : O = none := by rw [← HO.out, hq1]; rfl
          refine (RrPost.no P1 hq1).mono ?_
          rintro e w1 ⟨rfl, hv1⟩
          go_wp2_with fail
          all_goals first | exact ⟨rfl, rfl, hv1⟩ | exact ⟨rfl, by rw [h0]; exact ⟨rfl, hv1⟩⟩
        | some z =>
        obtain ⟨ps, y5cd⟩ := z
        rw [hq1] at HO
        simp only [Option.bind_some] at HO
        refine (RrPost.ok P1 hq1).mono ?_
        rintro e w1 ⟨rfl, s1, b1⟩
        have HP := hide (HP.out.but b1 hne)
        have HS := hide s1
        clear s1 b1 P1 hq1
        have c14 := (Blk.p18 HP.out).2.2.2.2.2.2.2.2.2.2.2.2.2.2.1
        have f14 := HP.out.frozen 14
        go_wp2_with fail
        go_end0
        rw [← HO.out]
        exact ⟨rfl, HS.out.set hne hvp 14 _, none, 0, 0, none, 0, 0, Blk.set HP.out 14 _, NewAt.nil _, NewAt.nil _, rfl, Nat.le_refl _, Rd.nil _ _, rfl, Nat.le_refl _, Rd.nil _ _⟩
  | true =>
    go_wp2_with fail
    obtain ⟨V4, hU⟩ : ∃ V4, (w1.setCell ⟨gp, 7, none⟩ (.string (str cl))) = V4 := ⟨_, rfl⟩
    rw [hU]
    have HP := hide (show PkZ V4 gp ⟨1, false, 0, [], [], (q : Int), D32, cl, D2, (al : Int), true, D128, D64, [], [], false, [], []⟩ from by rw [← hU]; exact Blk.set HP.out 7 _)
    have HS := hide (show RrS v xs A n k g y5 V4 from by rw [← hU]; exact HS.out.set hne hvp 7 _)
    clear hU f7 c7
    have P1 := rrText_any v xs A n k g y5 _ hb HS.out
    try simp only [oT_true] at HO
    cases hq1 : qT y5 with
    | none =>
      have h0 : O = none := by rw [← HO.out, hq1]; rfl
      refine (RrPost.no P1 hq1).mono ?_
      rintro e w1 ⟨rfl, hv1⟩
      go_wp2_with fail
      all_goals first | exact ⟨rfl, rfl, hv1⟩ | exact ⟨rfl, by rw [h0]; exact ⟨rfl, hv1⟩⟩
    | some z =>
    obtain ⟨tp, y5a⟩ := z
    rw [hq1] at HO
    simp only [Option.bind_some] at HO
    refine (RrPost.ok P1 hq1).mono ?_
    rintro e w1 ⟨rfl, s1, b1⟩
    have HP := hide (HP.out.but b1 hne)
    have HS := hide s1
    clear s1 b1 P1 hq1
    have c3 := (Blk.p18 HP.out).2.2.2.1
    have f3 := HP.out.frozen 3
    go_wp2_with fail
    obtain ⟨V5, hU⟩ : ∃ V5, (w1.setCell ⟨gp, 3, none⟩ (.string (str tp))) = V5 := ⟨_, rfl⟩
    rw [hU]
    have HP := hide (show PkZ V5 gp ⟨1, false, 0, tp, [], (q : Int), D32, cl, D2, (al : Int), true, D128, D64, [], [], false, [], []⟩ from by rw [← hU]; exact Blk.set HP.out 3 _)
    have HS := hide (show RrS v xs A n k g y5a V5 from by rw [← hU]; exact HS.out.set hne hvp 3 _)
    clear hU f3 c3
    have P1 := rrText_any v xs A n k g y5a _ hb HS.out
    try simp only [oT_true] at HO
    cases hq1 : qT y5a with
    | none =>
      have h0 : O = none := by rw [← HO.out, hq1]; rfl
      refine (RrPost.no P1 hq1).mono ?_
      rintro e w1 ⟨rfl, hv1⟩
      go_wp2_with fail
      all_goals first | exact ⟨rfl, rfl, hv1⟩ | exact ⟨rfl, by rw [h0]; exact ⟨rfl, hv1⟩⟩
    | some z =>
    obtain ⟨pl, y5b⟩ := z
    rw [hq1] at HO
    simp only [Option.bind_some] at HO
    refine (RrPost.ok P1 hq1).mono ?_
    rintro e w1 ⟨rfl, s1, b1⟩
    have HP := hide (HP.out.but b1 hne)
    have HS := hide s1
    clear s1 b1 P1 hq1
    have c4 := (Blk.p18 HP.out).2.2.2.2.1
    have c11 := (Blk.p18 HP.out).2.2.2.2.2.2.2.2.2.2.2.1
    have c12 := (Blk.p18 HP.out).2.2.2.2.2.2.2.2.2.2.2.2.1
    have f4 := HP.out.frozen 4
    cases D128 with
    | false =>
      simp only [oT_false, Option.bind_some] at HO
      cases D64 with
      | false =>
        simp only [oT_false, Option.bind_some] at HO
        go_wp2_with fail
        go_end0
        rw [← HO.out]
        exact ⟨rfl, HS.out.set hne hvp 4 _, none, 0, 0, none, 0, 0, Blk.set HP.out 4 _, NewAt.nil _, NewAt.nil _, rfl, Nat.le_refl _, Rd.nil _ _, rfl, Nat.le_refl _, Rd.nil _ _⟩
      | true =>
        go_wp2_with fail
        obtain ⟨V6, hU⟩ : ∃ V6, (w1.setCell ⟨gp, 4, none⟩ (.string (str pl))) = V6 := ⟨_, rfl⟩
        rw [hU]
        have HP := hide (show PkZ V6 gp ⟨1, false, 0, tp, pl, (q : Int), D32, cl, D2, (al : Int), true, false, true, [], [], false, [], []⟩ from by rw [← hU]; exact Blk.set HP.out 4 _)
        have HS := hide (show RrS v xs A n k g y5b V6 from by rw [← hU]; exact HS.out.set hne hvp 4 _)
        clear hU f4 c4
        have P1 := rrText_any v xs A n k g y5b _ hb HS.out
        try simp only [oT_true] at HO
        cases hq1 : qT y5b with
        | none =>
          have h0 : O = none := by rw [← HO.out, hq1]; rfl
          refine (RrPost.no P1 hq1).mono ?_
          rintro e w1 ⟨rfl, hv1⟩
          go_wp2_with fail
          all_goals first | exact ⟨rfl, rfl, hv1⟩ | exact ⟨rfl, by rw [h0]; exact ⟨rfl, hv1⟩⟩
        | some z =>
        obtain ⟨ps, y5bd⟩ := z
        rw [hq1] at HO
        simp only [Option.bind_some] at HO
        refine (RrPost.ok P1 hq1).mono ?_
        rintro e w1 ⟨rfl, s1, b1⟩
        have HP := hide (HP.out.but b1 hne)
        have HS := hide s1
        clear s1 b1 P1 hq1
        have c14 := (Blk.p18 HP.out).2.2.2.2.2.2.2.2.2.2.2.2.2.2.1
        have f14 := HP.out.frozen 14
        go_wp2_with fail
        go_end0
        rw [← HO.out]
        exact ⟨rfl, HS.out.set hne hvp 14 _, none, 0, 0, none, 0, 0, Blk.set HP.out 14 _, NewAt.nil _, NewAt.nil _, rfl, Nat.le_refl _, Rd.nil _ _, rfl, Nat.le_refl _, Rd.nil _ _⟩
    | true =>
      go_wp2_with fail
      obtain ⟨V7, hU⟩ : ∃ V7, (w1.setCell ⟨gp, 4, none⟩ (.string (str pl))) = V7 := ⟨_, rfl⟩
      rw [hU]
      have HP := hide (show PkZ V7 gp ⟨1, false, 0, tp, pl, (q : Int), D32, cl, D2, (al : Int), true, true, D64, [], [], false, [], []⟩ from by rw [← hU]; exact Blk.set HP.out 4 _)
      have HS := hide (show RrS v xs A n k g y5b V7 from by rw [← hU]; exact HS.out.set hne hvp 4 _)
      clear hU f4 c4
      have P1 := rrText_any v xs A n k g y5b _ hb HS.out
      try simp only [oT_true] at HO
      cases hq1 : qT y5b with
      | none =>
        have h0 : O = none := by rw [← HO.out, hq1]; rfl
        refine (RrPost.no P1 hq1).mono ?_
        rintro e w1 ⟨rfl, hv1⟩
        go_wp2_with fail
        all_goals first | exact ⟨rfl, rfl, hv1⟩ | exact ⟨rfl, by rw [h0]; exact ⟨rfl, hv1⟩⟩
      | some z =>
      obtain ⟨us, y5bc⟩ := z
      rw [hq1] at HO
      simp only [Option.bind_some] at HO
      refine (RrPost.ok P1 hq1).mono ?_
      rintro e w1 ⟨rfl, s1, b1⟩
      have HP := hide (HP.out.but b1 hne)
      have HS := hide s1
      clear s1 b1 P1 hq1
      have c12 := (Blk.p18 HP.out).2.2.2.2.2.2.2.2.2.2.2.2.1
      have c13 := (Blk.p18 HP.out).2.2.2.2.2.2.2.2.2.2.2.2.2.1
      have f13 := HP.out.frozen 13
      cases D64 with
      | false =>
        simp only [oT_false, Option.bind_some] at HO
        go_wp2_with fail
        go_end0
        rw [← HO.out]
        exact ⟨rfl, HS.out.set hne hvp 13 _, none, 0, 0, none, 0, 0, Blk.set HP.out 13 _, NewAt.nil _, NewAt.nil _, rfl, Nat.le_refl _, Rd.nil _ _, rfl, Nat.le_refl _, Rd.nil _ _⟩
      | true =>
        go_wp2_with fail
        obtain ⟨V8, hU⟩ : ∃ V8, (w1.setCell ⟨gp, 13, none⟩ (.string (str us))) = V8 := ⟨_, rfl⟩
        rw [hU]
        have HP := hide (show PkZ V8 gp ⟨1, false, 0, tp, pl, (q : Int), D32, cl, D2, (al : Int), true, true, true, us, [], false, [], []⟩ from by rw [← hU]; exact Blk.set HP.out 13 _)
        have HS := hide (show RrS v xs A n k g y5bc V8 from by rw [← hU]; exact HS.out.set hne hvp 13 _)
        clear hU f13 c13
        have P1 := rrText_any v xs A n k g y5bc _ hb HS.out
        try simp only [oT_true] at HO
        cases hq1 : qT y5bc with
        | none =>
          have h0 : O = none := by rw [← HO.out, hq1]; rfl
          refine (RrPost.no P1 hq1).mono ?_
          rintro e w1 ⟨rfl, hv1⟩
          go_wp2_with fail
          all_goals first | exact ⟨rfl, rfl, hv1⟩ | exact ⟨rfl, by rw [h0]; exact ⟨rfl, hv1⟩⟩
        | some z =>
        obtain ⟨ps, y5bcd⟩ := z
        rw [hq1] at HO
        simp only [Option.bind_some] at HO
        refine (RrPost.ok P1 hq1).mono ?_
        rintro e w1 ⟨rfl, s1, b1⟩
        have HP := hide (HP.out.but b1 hne)
        have HS := hide s1
        clear s1 b1 P1 hq1
        have c14 := (Blk.p18 HP.out).2.2.2.2.2.2.2.2.2.2.2.2.2.2.1
        have f14 := HP.out.frozen 14
        go_wp2_with fail
        go_end0
        rw [← HO.out]
        exact ⟨rfl, HS.out.set hne hvp 14 _, none, 0, 0, none, 0, 0, Blk.set HP.out 14 _, NewAt.nil _, NewAt.nil _, rfl, Nat.le_refl _, Rd.nil _ _, rfl, Nat.le_refl _, Rd.nil _ _⟩

end Go.Proofs.Ytkgidimaiedocaa

namespace Go.Proofs.Ytkgidimaiedocaa
set_option linter.unusedVariables false
set_option linter.unusedSimpArgs false
open Go.RowKit

/-- Codes that are read so far. -/
def codL (ys : List UInt8) (k : Nat) : List Int := (ys.take k).map (fun c => ((c.toNat : Nat) : Int)) ++ List.replicate (ys.length - k) 0
theorem codL_zero (ys : List UInt8) : codL ys 0 = List.replicate ys.length 0 := by simp [codL]
theorem codL_all (ys : List UInt8) : codL ys ys.length = ys.map (fun c => ((c.toNat : Nat) : Int)) := by simp [codL]
theorem codL_len (ys : List UInt8) (k : Nat) (h : k ≤ ys.length) : (codL ys k).length = ys.length := by simp [codL]; omega
theorem codL_set (ys : List UInt8) (k : Nat) (h : k < ys.length) : (iv (codL ys k)).set k (.int .i64 ((ys[k].toNat : Nat) : Int)) = iv (codL ys (k + 1)) := by
  have hk : ((ys.take k).map (fun c => ((c.toNat : Nat) : Int))).length = k := by simp; omega
  unfold codL iv
  rw [← List.map_set, List.set_append_right _ _ (by omega), hk, Nat.sub_self, List.take_succ_eq_append_getElem h, List.map_append]
  obtain ⟨j, hj⟩ : ∃ j, ys.length - k = j + 1 := ⟨ys.length - k - 1, by omega⟩
  rw [hj, show ys.length - (k + 1) = j by omega, List.replicate_succ]
  simp only [List.map_append, List.map_cons, List.map_nil, List.set_cons_zero, List.append_assoc, List.cons_append, List.nil_append]

set_option maxRecDepth 100000 in
set_option maxHeartbeats 2000000 in
theorem rrCodes_any (v : Bs) (xs : List UInt8) (A : Option Addr) (n k g gp : Nat) (ys : List UInt8) (w : World) (hb : RrB v xs A n k) (h : RrS v xs A n k g ys w) (hp : PkZ w gp (zeroP 9)) (hne : ¬ gp = g) (hvp : v.S gp) : Calls Try.prog 138 #[.pointer (some ⟨g, 0, none⟩), .pointer (some ⟨gp, 0, none⟩)] w (FPost v xs A n k g gp (codQ ys)) := by
  have HP := hide hp
  obtain ⟨O, hO⟩ : ∃ O, codQ ys = O := ⟨_, rfl⟩
  rw [hO]
  unfold codQ at hO
  have HO := hide hO
  have P1 := rrWord_any v xs A n k g ys w hb h
  clear h hp hO
  go_enter Try.func138, Try.ntmps138
  go_wp2_with fail
  cases hq1 : qW ys with
  | none =>
    have h0 : O = none := by rw [← HO.out, hq1]; rfl
    refine (RrPost.no P1 hq1).mono ?_
    rintro e w1 ⟨rfl, hv1⟩
    go_wp2_with fail
    all_goals first | exact ⟨rfl, rfl, hv1⟩ | exact ⟨rfl, by rw [h0]; exact ⟨rfl, hv1⟩⟩
  | some z =>
  obtain ⟨d, y2⟩ := z
  rw [hq1] at HO
  simp only [Option.bind_some] at HO
  refine (RrPost.ok P1 hq1).mono ?_
  rintro e w1 ⟨rfl, s1, b1⟩
  have HP := hide (HP.out.but b1 hne)
  have HS := hide s1
  clear s1 b1 P1 hq1
  have c2 := (Blk.p18 HP.out).2.2.1
  have f2 := HP.out.frozen 2
  go_wp2_with fail
  obtain ⟨U, hU⟩ : ∃ U, (w1.setCell ⟨gp, 2, none⟩ (.int .i64 (d : Int))) = U := ⟨_, rfl⟩
  rw [hU]
  have HP := hide (show PkZ U gp { zeroP 9 with id := (d : Int) } from by rw [← hU]; exact Blk.set HP.out 2 _)
  have HS := hide (show RrS v xs A n k g y2 U from by rw [← hU]; exact HS.out.set hne hvp 2 _)
  clear hU c2 f2
  have hlen : y2.length ≤ 65535 := by
    obtain ⟨i, -, hi, -, -, -⟩ := HS.out
    have := hb.2.2.1
    omega
  have PL := rrLeft_any v xs A n k g y2 U hb HS.out
  obtain ⟨m, hm⟩ : ∃ m, y2.length = m := ⟨_, rfl⟩
  rw [hm] at PL hlen
  have Hm := hide hm
  clear hm
  have hmk := fun W => run_mk (P := Try.prog) 23 3 (.int .i64 0) 8 Try.underlying23 int_info rfl m (by omega) (by omega) W
  refine PL.mono ?_
  rintro e w1 ⟨rfl, s1, b1⟩
  have HP1 := HP.out.but b1 hne
  have c16 := (Blk.p18 HP1).2.2.2.2.2.2.2.2.2.2.2.2.2.2.2.2.1
  have f16 := HP1.frozen 16
  have l1 := Blk.lt HP1
  have HP := hide HP1
  have HS := hide s1
  have hvz := s1.low.size
  clear s1 b1 PL HP1
  go_wp2_with fail
  clear hmk
  obtain ⟨gc, hgc⟩ : ∃ gc, w1.heap.size = gc := ⟨_, rfl⟩
  obtain ⟨T, hT⟩ : ∃ T, w1.setCell ⟨gp, 16, none⟩ (.slice (some ⟨gc, 0, none⟩) m m) = T := ⟨_, rfl⟩
  have hsz : T.heap.size = gc := by rw [← hT]; simp [hgc]
  rw [hgc, hT]
  have HPT : Blk T gp 35 (pkVs { zeroP 9 with id := (d : Int) } (some ⟨gc, 0, none⟩) m m none 0 0) := by rw [← hT]; exact Blk.set HP.out 16 _
  have HST : RrS v xs A n k g y2 T := by rw [← hT]; exact HS.out.set hne hvp 16 _
  obtain ⟨V, hV⟩ : ∃ V, T.alloc (.cells (arr (List.replicate m (Value.int .i64 0))) 3) = V := ⟨_, rfl⟩
  rw [hV]
  have bV : Below T.heap.size T V := by rw [← hV]; exact (Below.refl _ _).alloc (Nat.le_refl _) _
  have HP := hide (HPT.keep bV)
  have HS := hide (HST.keep bV)
  have HC := hide (show Blk V gc 3 (iv (codL y2 0)) from by
    rw [codL_zero, Hm.out, iv, List.map_replicate, ← hV]
    have := Blk.new T 3 (List.replicate m (Value.int .i64 0))
    rw [hsz] at this
    exact this)
  have hgg : ¬ gc = g := by
    obtain ⟨i, hB, -⟩ := HS.out
    have h1 := Blk.lt hB
    intro e
    have h2 := HC.out
    rw [e] at h2
    have := hB.symm.trans h2
    simp [arr, iv] at this
  have hgp : ¬ gc = gp := by rw [← hgc]; omega
  have hvg : v.v.heap.size ≤ gc := by rw [← hgc]; exact hvz
  have hvc : v.S gc := v.new gc hvg
  clear hV bV hsz hgc c16 f16 l1 hT HPT HST
  go_loopw [21] (fun i wr => ∃ j : Nat, j ≤ m ∧ i = .int .i64 (j : Int) ∧ Blk wr gc 3 (iv (codL y2 j)) ∧ Blk wr gp 35 (pkVs { zeroP 9 with id := (d : Int) } (some ⟨gc, 0, none⟩) m m none 0 0) ∧ RrS v xs A n k g (y2.drop j) wr) (fun i _ => m - (intOf i).toNat)
  case atStart => exact ⟨0, Nat.zero_le _, rfl, HC.out, HP.out, HS.out⟩
  case round =>
    obtain ⟨j, hj, rfl, hC, hP, hS⟩ := hrel
    clear HC HP HS
    have HC := hide hC
    have HP := hide hP
    have HS := hide hS
    clear hC hP hS
    by_cases hlt : j < m
    · have q1 : (j : Int) < (m : Int) := by omega
      have hjl : j < y2.length := by rw [Hm.out]; exact hlt
      have hq : qB (y2.drop j) = some (y2[j].toNat, y2.drop (j + 1)) := by rw [List.drop_eq_getElem_cons hjl]; rfl
      have PO := hide fun W hW => RrPost.ok (rrOctet_any v xs A n k g (y2.drop j) W hb hW) hq
      have c16 := (Blk.p18 HP.out).2.2.2.2.2.2.2.2.2.2.2.2.2.2.2.2.1
      have Hset := hide (codL_set y2 j hjl)
      have hcx := y2[j].toNat_lt
      obtain ⟨X, hX⟩ : ∃ X, y2[j].toNat = X := ⟨_, rfl⟩
      rw [hX] at PO Hset hcx
      have Hjl := hide hjl
      clear hq hX
      go_wp2_with fail
      refine wp_region_held_drew (S := fun W => W.cell? ⟨gp, 16, none⟩ = some (.slice (some ⟨gc, 0, none⟩) m m)) (by kernel_rfl) ?_ (fun hHeld => ?_)
      · exact c16
      refine wpAnyH_take (i := 0) (oi := { dst := some 24, op := _, type := _, pos := _, after := _, guard := _ }) (v := ?v3x1) rfl (by kernel_rfl) (by kernel_rfl) (by kernel_rfl) (fun _ _ _ h => h) (Or.inl ⟨by rfl, ?hy3x1⟩) hHeld ?rest3x1
      case hy3x1 => (intro w hSw; go_simp <;> with_reducible rfl)
      try simp only [Act.put, List.setIfInBounds_toArray, List.set_cons_zero, List.set_cons_succ]
      refine wpAnyH_take (i := 1) (oi := { dst := some 25, op := _, type := _, pos := _, after := _, guard := _ }) (v := ?v3x2) rfl (by kernel_rfl) (by kernel_rfl) (by kernel_rfl) (fun _ _ _ h => h) (Or.inl ⟨by rfl, ?hy3x2⟩) hHeld ?rest3x2
      case hy3x2 => (intro w hSw; go_simp <;> with_reducible rfl)
      try simp only [Act.put, List.setIfInBounds_toArray, List.set_cons_zero, List.set_cons_succ]
      refine wpAnyH_take (i := 2) (oi := { dst := some 26, op := _, type := _, pos := _, after := _, guard := _ }) (v := ?v3x3) rfl (by kernel_rfl) (by kernel_rfl) (by kernel_rfl) (fun _ _ _ h => h) (Or.inl ⟨by rfl, ?hy3x3⟩) hHeld ?rest3x3
      case hy3x3 => (intro w hSw; go_simp <;> with_reducible rfl)
      try simp only [Act.put, List.setIfInBounds_toArray, List.set_cons_zero, List.set_cons_succ]
      refine wpAnyH_take (i := 3) (oi := { dst := some 27, op := _, type := _, pos := _, after := _, guard := _ }) (v := ?v3x4) rfl (by kernel_rfl) (by kernel_rfl) (by kernel_rfl) (fun _ _ _ h => h) (Or.inl ⟨by rfl, ?hy3x4⟩) hHeld ?rest3x4
      case hy3x4 => (intro w hSw; go_simp <;> with_reducible rfl)
      try simp only [Act.put, List.setIfInBounds_toArray, List.set_cons_zero, List.set_cons_succ]
      refine wpAnyH_take (i := 4) (oi := { dst := some 28, op := _, type := _, pos := _, after := _, guard := _ }) (v := ?v3x5) rfl (by kernel_rfl) (by kernel_rfl) (by kernel_rfl) (fun _ _ _ h => h) (Or.inl ⟨by rfl, ?hy3x5⟩) hHeld ?rest3x5
      case hy3x5 => (intro w hSw; go_simp <;> with_reducible rfl)
      try simp only [Act.put, List.setIfInBounds_toArray, List.set_cons_zero, List.set_cons_succ]
      refine wpAnyH_take (i := 5) (oi := { dst := some 29, op := _, type := _, pos := _, after := _, guard := _ }) (v := ?v3x6) rfl (by kernel_rfl) (by kernel_rfl) (by kernel_rfl) (fun _ _ _ h => h) (Or.inl ⟨by rfl, ?hy3x6⟩) hHeld ?rest3x6
      case hy3x6 => (intro w hSw; go_simp <;> with_reducible rfl)
      try simp only [Act.put, List.setIfInBounds_toArray, List.set_cons_zero, List.set_cons_succ]
      refine wpAnyH_ready (rs := [6]) (by kernel_rfl) (by simp) (AllReadyH.cons (o := { dst := some 30, op := _, type := _, pos := _, after := _, guard := _ }) rfl (fun K hK => ?_) AllReadyH.nil)
      go_simp
      refine (PO.out _ (HS.out.keep (below_drewN (Below.refl _ _) 1))).mono ?_
      rintro e w1 ⟨rfl, s1, b1⟩
      replace b1 : But (fun i => i = g) wr w1 := But.after (below_drewN (Below.refl _ _) 1) b1
      have HP1 := HP.out.but b1 (by simpa using hne)
      have HC1 := HC.out.but b1 (by simpa using hgg)
      have c16' := (Blk.p18 HP1).2.2.2.2.2.2.2.2.2.2.2.2.2.2.2.2.1
      have cc : w1.cell? ⟨gc, j, none⟩ = some (.int .i64 0) := by
        rw [HC1.cell, iv, List.getElem?_map]
        unfold codL
        have hk : ((y2.take j).map (fun c => ((c.toNat : Nat) : Int))).length = j := by have := Hjl.out; simp; omega
        rw [List.getElem?_append_right (by omega), hk, Nat.sub_self, List.getElem?_replicate, if_pos (by have := Hjl.out; omega)]
        rfl
      have fc := HC1.frozen j
      have HP := hide HP1
      have HC := hide HC1
      have HS := hide s1
      clear HP1 HC1 s1 b1
      go_wp2_with fail
      refine hK.out _ _ ?_ (fun hHeld => ?_)
      · exact c16'
      clear hK K
      try simp only [Act.put, List.setIfInBounds_toArray, List.set_cons_zero, List.set_cons_succ]
      refine wpAnyH_take (i := 7) (oi := { dst := some 31, op := _, type := _, pos := _, after := _, guard := _ }) (v := ?v3x8) rfl (by kernel_rfl) (by kernel_rfl) (by kernel_rfl) (fun _ _ _ h => h) (Or.inl ⟨by rfl, ?hy3x8⟩) hHeld ?rest3x8
      case hy3x8 => (intro w hSw; go_simp <;> with_reducible rfl)
      try simp only [Act.put, List.setIfInBounds_toArray, List.set_cons_zero, List.set_cons_succ]
      refine wpAnyH_ready (rs := [8]) (by kernel_rfl) (by simp) (AllReadyH.cons (o := { dst := none, op := _, type := _, pos := _, after := _, guard := _ }) rfl (fun K hK => ?_) AllReadyH.nil)
      go_simp
      go_wp2_with fail
      refine hK.out _ _ ?_ (fun hHeld => ?_)
      · exact (Blk.p18 (Blk.oth HP.out hgp _ _)).2.2.2.2.2.2.2.2.2.2.2.2.2.2.2.2.1
      clear hK K
      try simp only [Act.put, List.setIfInBounds_toArray, List.set_cons_zero, List.set_cons_succ]
      refine wpAnyH_done (by kernel_rfl) ?_ _
      go_wp2_with fail
      exact ⟨⟨j + 1, by omega, by go_num, by rw [← Hset.out]; exact HC.out.set j _, Blk.oth HP.out hgp _ _, HS.out.set hgg hvc j _⟩, by simp [intOf]; omega⟩
    · obtain rfl : j = m := by omega
      have q1 : ¬ (j : Int) < (j : Int) := by omega
      go_wp2_with fail
      go_end0
      rw [← HO.out]
      have hl := Hm.out
      refine ⟨rfl, ?_, some ⟨gc, 0, none⟩, j, j, none, 0, 0, HP.out, (fun b o e => by injection e with e; injection e with e1; rw [← e1]; exact hvg), NewAt.nil _, ?_, Nat.le_refl _, ?_, rfl, Nat.le_refl _, Rd.nil _ _⟩
      · have := HS.out
        rw [← hl, List.drop_length] at this
        exact this
      · simp [hl]
      · have := HC.out.rd
        rw [← hl, codL_all, iv_length, List.length_map, hl] at this
        exact this

end Go.Proofs.Ytkgidimaiedocaa

namespace Go.Proofs.Ytkgidimaiedocaa
set_option linter.unusedVariables false
set_option linter.unusedSimpArgs false
open Go.RowKit

theorem sub_info : (Try.prog.info? 79).map (fun i => (i.zero, i.size, i.bytes)) = some (some (.agg #[.string ByteArray.empty, .int .i64 0]), 2, 24) := by kernel_rfl
/-- Where a reader stands. -/
def posOf (w : World) (g : Nat) : Nat := match w.cell? ⟨g, 1, none⟩ with
  | some (.int _ i) => i.toNat
  | _ => 0
theorem RrS.pos {v : Bs} {w : World} {xs : List UInt8} {A : Option Addr} {n k g : Nat} {ys : List UInt8} (h : RrS v xs A n k g ys w) : posOf w g + ys.length = n := by
  obtain ⟨i, hB, hi, -, -, -⟩ := h
  have c1 := hB.cell 1
  simp only [List.getElem?_cons_zero, List.getElem?_cons_succ] at c1
  unfold posOf
  rw [c1]
  simp only [Int.toNat_natCast]
  exact hi
theorem RrS.but {S : Nat → Prop} {v : Bs} {w w' : World} {xs : List UInt8} {A : Option Addr} {n k g : Nat} {ys : List UInt8} (h : RrS v xs A n k g ys w) (b : But S w w') (hne : ¬ S g) (hv : ∀ i, S i → v.S i) : RrS v xs A n k g ys w' := by
  obtain ⟨i, hB, hi, hd, hg, hlo⟩ := h
  exact ⟨i, hB.but b hne, hi, hd, hg, hlo.trans b (fun i _ e => hv i e)⟩
theorem RrS.lt {v : Bs} {w : World} {xs : List UInt8} {A : Option Addr} {n k g : Nat} {ys : List UInt8} (h : RrS v xs A n k g ys w) : g < w.heap.size := by
  obtain ⟨i, hB, -⟩ := h
  exact hB.lt
/-- What is still to come of filters. -/
def namE (t : Nat) (d : Nat) (l : List (List UInt8 × Int)) (o : Option (List (List UInt8 × Int))) : Option (Pk × List UInt8) := o.bind fun m => some ({ zeroP t with id := (d : Int), subs := l ++ m }, [])
theorem namE_step (t d : Nat) (l : List (List UInt8 × Int)) (s : List UInt8 × Int) (o : Option (List (List UInt8 × Int))) : namE t d (l ++ [s]) o = namE t d l (o.bind fun m => some (s :: m)) := by
  cases o <;> simp [namE]
theorem subsQ_step (q : Bool) (K : Nat) (r : List UInt8) (hr : r ≠ []) : subsQ q (K + 1) r = (subQ q r).bind fun s => (subsQ q K s.2).bind fun l => some (s.1 :: l) := by
  conv => lhs; unfold subsQ
  rw [if_neg hr]
theorem subsQ_nil (q : Bool) (K : Nat) : subsQ q K [] = some [] := by cases K <;> simp [subsQ]
theorem qT_len {ys s t : List UInt8} (h : qT ys = some (s, t)) : t.length + 2 ≤ ys.length := by
  have := congrArg List.length (qT_some h).1
  rw [List.length_append, textL_len] at this
  simp only at this
  omega

set_option maxRecDepth 100000 in
set_option maxHeartbeats 4000000 in
theorem rrNames_any (t : Nat) (qos : Bool) (v : Bs) (xs : List UInt8) (A : Option Addr) (n k g gp : Nat) (ys : List UInt8) (w : World) (hb : RrB v xs A n k) (h : RrS v xs A n k g ys w) (hp : PkZ w gp (zeroP t)) (hne : ¬ gp = g) (hvp : v.S gp) : Calls Try.prog 137 #[.pointer (some ⟨g, 0, none⟩), .pointer (some ⟨gp, 0, none⟩), .bool qos] w (FPost v xs A n k g gp (namQ t qos ys)) := by
  have HP := hide hp
  obtain ⟨O, hO⟩ : ∃ O, namQ t qos ys = O := ⟨_, rfl⟩
  rw [hO]
  unfold namQ at hO
  have HO := hide hO
  have P1 := rrWord_any v xs A n k g ys w hb h
  clear h hp hO
  go_enter Try.func137, Try.ntmps137
  go_wp2_with fail
  cases hq1 : qW ys with
  | none =>
    have h0 : O = none := by rw [← HO.out, hq1]; rfl
    refine (RrPost.no P1 hq1).mono ?_
    rintro e w1 ⟨rfl, hv1⟩
    go_wp2_with fail
    all_goals first | exact ⟨rfl, rfl, hv1⟩ | exact ⟨rfl, by rw [h0]; exact ⟨rfl, hv1⟩⟩
  | some z =>
  obtain ⟨d, y2⟩ := z
  rw [hq1] at HO
  simp only [Option.bind_some] at HO
  refine (RrPost.ok P1 hq1).mono ?_
  rintro e w1 ⟨rfl, s1, b1⟩
  have HP := hide (HP.out.but b1 hne)
  have HS := hide s1
  clear s1 b1 P1 hq1
  have c2 := (Blk.p18 HP.out).2.2.1
  have f2 := HP.out.frozen 2
  go_wp2_with fail
  obtain ⟨U, hU⟩ : ∃ U, (w1.setCell ⟨gp, 2, none⟩ (.int .i64 (d : Int))) = U := ⟨_, rfl⟩
  rw [hU]
  have HP := hide (show Blk U gp 35 (pkVs { zeroP t with id := (d : Int) } none 0 0 none 0 0) from by rw [← hU]; exact Blk.set HP.out 2 _)
  have HS := hide (show RrS v xs A n k g y2 U from by rw [← hU]; exact HS.out.set hne hvp 2 _)
  clear hU c2 f2
  have hlen : y2.length ≤ 65535 := by
    have := HS.out.pos
    have := hb.2.2.1
    omega
  obtain ⟨base, hbase⟩ : ∃ base, U.heap.size = base := ⟨_, rfl⟩
  have hgb : g < base := by rw [← hbase]; exact HS.out.lt
  have hpb : gp < base := by rw [← hbase]; exact HP.out.lt
  have hvb : v.v.heap.size ≤ base := by rw [← hbase]; exact HS.out.low.size
  go_loopw [13] (fun _ wr => ∃ (l : List (List UInt8 × Int)) (r : List UInt8) (K : Nat) (S : Option Addr) (ks : Nat), l.length + r.length ≤ 65535 ∧ r.length ≤ K ∧ namE t d l (subsQ qos K r) = O ∧ wr.ownsRow base 79 2 (.slice S l.length ks) l.length (subVs l) ∧ Blk wr gp 35 (pkVs { zeroP t with id := (d : Int) } none 0 0 S l.length ks) ∧ RrS v xs A n k g r wr ∧ base ≤ wr.heap.size) (fun _ wr => n - posOf wr g)
  case atStart => exact ⟨[], y2, y2.length, none, 0, by simpa using hlen, Nat.le_refl _, by rw [← HO.out]; rfl, ⟨rfl, .inl ⟨rfl, rfl⟩⟩, HP.out, HS.out, Nat.le_of_eq hbase.symm⟩
  case round =>
    obtain ⟨l, r, K, S, ks, hlr, hK, hE, hR, hP, hS, hbz⟩ := hrel
    clear HP HS HO
    have HP := hide hP
    have HS := hide hS
    have HR := hide hR
    have HE := hide hE
    clear hP hS hR hE
    have PL := hide (rrLeft_any v xs A n k g r wr hb HS.out)
    have Hpos := hide HS.out.pos
    obtain ⟨W0, hW0⟩ : ∃ W0, wr = W0 := ⟨_, rfl⟩
    subst hW0
    by_cases hr : r = []
    · subst hr
      rw [List.length_nil] at PL
      go_wp2_with fail
      refine PL.out.mono ?_
      rintro e w1 ⟨rfl, s1, b1⟩
      have HP := hide (HP.out.but b1 (by simpa using hne))
      have HR := hide (ownS_but HR.out b1 (fun b o e h => by have := ownS_new HR.out b o e; have h' : b = g := h; omega))
      go_wp2_with fail
      go_end0
      have hO : O = some ({ zeroP t with id := (d : Int), subs := l }, []) := by
        rw [← HE.out, subsQ_nil]
        show some (_, _) = _
        rw [List.append_nil]
      rw [hO]
      refine ⟨rfl, s1, none, 0, 0, S, l.length, ks, HP.out, NewAt.nil _, (fun b o e => Nat.le_trans hvb (ownS_new HR.out b o e)), rfl, Nat.le_refl _, Rd.nil _ _, rfl, ownS_cap HR.out, ownS_rd HR.out⟩
    · have hr0 : 0 < r.length := List.length_pos_iff.2 hr
      obtain ⟨K', rfl⟩ : ∃ K', K = K' + 1 := ⟨K - 1, by omega⟩
      have hE := HE.out
      rw [subsQ_step qos K' r hr] at hE
      have HE := hide hE
      obtain ⟨m, hm⟩ : ∃ m, r.length = m := ⟨_, rfl⟩
      have Hm := hide hm
      rw [hm] at PL hr0
      have q0 : (m : Int) > 0 := by omega
      clear hE
      go_wp2_with fail
      refine PL.out.mono ?_
      rintro e w1 ⟨rfl, s1, b1⟩
      have HP := hide (HP.out.but b1 (by simpa using hne))
      have HR := hide (ownS_but HR.out b1 (fun b o e h => by have := ownS_new HR.out b o e; have h' : b = g := h; omega))
      have HS := hide s1
      have hbz := Nat.le_trans hbz b1.size
      clear s1 b1 PL
      go_wp2_with fail
      have P1 := rrText_any v xs A n k g r w1 hb HS.out
      cases hq1 : qT r with
      | none =>
        have h0 : O = none := by rw [← HE.out]; unfold subQ; rw [hq1]; rfl
        refine (RrPost.no P1 hq1).mono ?_
        rintro e w1 ⟨rfl, hv1⟩
        go_wp2_with fail
        all_goals first | exact ⟨rfl, rfl, hv1⟩ | exact ⟨rfl, by rw [h0]; exact ⟨rfl, hv1⟩⟩
      | some z =>
      obtain ⟨f, r1⟩ := z
      have hlen1 := qT_len hq1
      have HE := hide (show namE t d l ((if qos = true then (qB r1).bind fun q => some ((f, (q.1 : Int)), q.2) else some ((f, (0 : Int)), r1)).bind fun s => (subsQ qos K' s.2).bind fun l => some (s.1 :: l)) = O from by
        have := HE.out
        unfold subQ at this
        rw [hq1] at this
        exact this)
      refine (RrPost.ok P1 hq1).mono ?_
      rintro e w2 ⟨rfl, s1, b1⟩
      have HP := hide (HP.out.but b1 (by simpa using hne))
      have HR := hide (ownS_but HR.out b1 (fun b o e h => by have := ownS_new HR.out b o e; have h' : b = g := h; omega))
      have HS := hide s1
      have hbz := Nat.le_trans hbz b1.size
      clear s1 b1 P1 hq1
      have hpw : gp < w2.heap.size := Nat.lt_of_lt_of_le hpb hbz
      obtain ⟨gs, hgs⟩ : ∃ gs, w2.heap.size = gs := ⟨_, rfl⟩
      have hSgs : ¬ ∃ o, S = some ⟨gs, o, none⟩ := fun ⟨o, e⟩ => by have := ownS_lt HR.out gs o e; omega
      have hsb : base ≤ gs := by omega
      have hgsg : ¬ gs = g := by omega
      have hgsp : ¬ gs = gp := by omega
      have hvs : v.S gs := v.new gs (by omega)
      have Hgs := hide hgs
      clear hgs
      obtain ⟨U1, hU1⟩ : ∃ U1, w2.alloc (.cells #[.string (str f), .int .i64 0] 79) = U1 := ⟨_, rfl⟩
      have bU : Below w2.heap.size w2 U1 := by rw [← hU1]; exact (Below.refl _ _).alloc (Nat.le_refl _) _
      have HP := hide (HP.out.keep bU)
      have HS := hide (HS.out.keep bU)
      have HR := hide (ownS_keep HR.out bU)
      have HG := hide (show Blk U1 gs 79 [.string (str f), .int .i64 0] from by rw [← hU1, ← Hgs.out]; exact Blk.new w2 79 _)
      have hbz := Nat.le_trans hbz bU.size
      have HU1 := hide hU1
      clear bU hU1
      cases qos with
      | true =>
        go_wp2_with fail
        rw [HU1.out, Hgs.out]
        have P1 := rrOctet_any v xs A n k g r1 U1 hb HS.out
        cases hq1 : qB r1 with
        | none =>
          have h0 : O = none := by rw [← HE.out, if_pos trivial, hq1]; rfl
          refine (RrPost.no P1 hq1).mono ?_
          rintro e w1 ⟨rfl, hv1⟩
          go_wp2_with fail
          all_goals first | exact ⟨rfl, rfl, hv1⟩ | exact ⟨rfl, by rw [h0]; exact ⟨rfl, hv1⟩⟩
        | some z =>
        obtain ⟨c, r2⟩ := z
        have HE := hide (show namE t d l ((subsQ true K' r2).bind fun l => some ((f, (c : Int)) :: l)) = O from by rw [← HE.out, if_pos trivial, hq1]; rfl)
        have hlen2 : r2.length < r1.length := by
          have := congrArg List.length (qB_some hq1).1
          simp at this
          omega
        refine (RrPost.ok P1 hq1).mono ?_
        rintro e w3 ⟨rfl, s1, b1⟩
        have HP := hide (HP.out.but b1 (by simpa using hne))
        have HR := hide (ownS_but HR.out b1 (fun b o e h => by have := ownS_new HR.out b o e; have h' : b = g := h; omega))
        have HG := hide (HG.out.but b1 (by simpa using hgsg))
        have HS := hide s1
        have hbz := Nat.le_trans hbz b1.size
        clear s1 b1 P1 hq1
        have cg := HG.out.cell 1
        simp only [List.getElem?_cons_zero, List.getElem?_cons_succ] at cg
        have fg := HG.out.frozen 1
        go_wp2_with fail
        obtain ⟨U, hU⟩ : ∃ U, w3.setCell ⟨gs, 1, none⟩ (.int .i64 (c : Int)) = U := ⟨_, rfl⟩
        rw [hU]
        have HP := hide (show Blk U gp 35 (pkVs { zeroP t with id := (d : Int) } none 0 0 S l.length ks) from by rw [← hU]; exact Blk.oth HP.out hgsp _ _)
        have HS := hide (show RrS v xs A n k g r2 U from by rw [← hU]; exact HS.out.set hgsg hvs 1 _)
        have HR := hide (show U.ownsRow base 79 2 (.slice S l.length ks) l.length (subVs l) from by rw [← hU]; exact ownS_but HR.out (But.setCell (S := fun i => i = gs) w3 _ rfl) (fun b o e h => by have h' : b = gs := h; exact hSgs ⟨o, by rw [← h']; exact e⟩))
        have HG := hide (show Blk U gs 79 [.string (str f), .int .i64 (c : Int)] from by rw [← hU]; exact Blk.set HG.out 1 _)
        have hbz : base ≤ U.heap.size := by rw [← hU]; simpa using hbz
        clear hU cg fg
        have hbel : Below U.heap.size U (U.drew.alloc (.cells #[.string (str f), .int .i64 (c : Int)] 79)) := ((Below.refl _ _).drew).alloc (Nat.le_refl _) _
        have hrd : Rd (U.drew.alloc (.cells #[.string (str f), .int .i64 (c : Int)] 79)) (some ⟨U.heap.size, 0, none⟩) 2 (subVs [(f, (c : Int))]) := (Blk.new U.drew 79 [.string (str f), .int .i64 (c : Int)]).rd
        have Hbel := hide hbel
        have Hrd := hide hrd
        obtain ⟨g0, g1⟩ : U.cell? ⟨gs, 0, none⟩ = some (.string (str f)) ∧ U.cell? ⟨gs, 1, none⟩ = some (.int .i64 (c : Int)) := ⟨HG.out.cell 0, HG.out.cell 1⟩
        have c17 := (Blk.p18 HP.out).2.2.2.2.2.2.2.2.2.2.2.2.2.2.2.2.2
        have l17 := Blk.lt HP.out
        have hll : l.length ≤ 65535 := by omega
        clear hbel hrd
        refine wp_region_held_drew (S := fun W => W.cell? ⟨gs, 0, none⟩ = some (.string (str f)) ∧ W.cell? ⟨gs, 1, none⟩ = some (.int .i64 (c : Int))) (by kernel_rfl) ?_ (fun hHeld => ?_)
        · exact ⟨g0, g1⟩
        refine wpAnyH_take (i := 0) (oi := { dst := some 22, op := _, type := _, pos := _, after := _, guard := _ }) (v := ?v4x1) rfl (by kernel_rfl) (by kernel_rfl) (by kernel_rfl) (fun _ _ _ h => h) (Or.inl ⟨by rfl, ?hy4x1⟩) hHeld ?rest4x1
        case hy4x1 => (intro w hSw; go_simp <;> with_reducible rfl)
        try simp only [Act.put, List.setIfInBounds_toArray, List.set_cons_zero, List.set_cons_succ]
        refine wpAnyH_take (i := 1) (oi := { dst := some 23, op := _, type := _, pos := _, after := _, guard := _ }) (v := ?v4x2) rfl (by kernel_rfl) (by kernel_rfl) (by kernel_rfl) (fun _ _ _ h => h) (Or.inl ⟨by rfl, ?hy4x2⟩) hHeld ?rest4x2
        case hy4x2 => (intro w hSw; go_simp <;> with_reducible rfl)
        try simp only [Act.put, List.setIfInBounds_toArray, List.set_cons_zero, List.set_cons_succ]
        refine wpAnyH_take (i := 2) (oi := { dst := some 24, op := _, type := _, pos := _, after := _, guard := _ }) (v := ?v4x3) rfl (by kernel_rfl) (by kernel_rfl) (by kernel_rfl) (fun _ _ _ h => h) (Or.inl ⟨by rfl, ?hy4x3⟩) hHeld ?rest4x3
        case hy4x3 => (intro w hSw; go_simp <;> with_reducible rfl)
        try simp only [Act.put, List.setIfInBounds_toArray, List.set_cons_zero, List.set_cons_succ]
        refine wpAnyH_take (i := 3) (oi := { dst := some 25, op := _, type := _, pos := _, after := _, guard := _ }) (v := ?v4x4) rfl (by kernel_rfl) (by kernel_rfl) (by kernel_rfl) (fun _ _ _ h => h) (Or.inl ⟨by rfl, ?hy4x4⟩) hHeld ?rest4x4
        case hy4x4 => (intro w hSw; go_simp <;> with_reducible rfl)
        try simp only [Act.put, List.setIfInBounds_toArray, List.set_cons_zero, List.set_cons_succ]
        refine wpAnyH_take (i := 5) (oi := { dst := some 27, op := _, type := _, pos := _, after := _, guard := _ }) (v := ?v4x5) rfl (by kernel_rfl) (by kernel_rfl) (by kernel_rfl) (fun _ _ _ h => h) (Or.inl ⟨by rfl, ?hy4x5⟩) hHeld ?rest4x5
        case hy4x5 => (intro w hSw; go_simp <;> with_reducible rfl)
        try simp only [Act.put, List.setIfInBounds_toArray, List.set_cons_zero, List.set_cons_succ]
        refine wpAnyH_ready (rs := [4, 6]) (by kernel_rfl) (by simp) (AllReadyH.cons (o := { dst := some 26, op := _, type := _, pos := _, after := _, guard := _ }) rfl (fun K hK => ?way4x6x4) (AllReadyH.cons (o := { dst := some 28, op := _, type := _, pos := _, after := _, guard := _ }) rfl (fun K hK => ?way4x6x6) AllReadyH.nil))
        case' way4x6x4 =>
          go_simp
          go_wp2_with fail
          refine hK.out _ _ ?_ (fun hHeld => ?_)
          · exact hHeld
          clear hK K
          try simp only [Act.put, List.setIfInBounds_toArray, List.set_cons_zero, List.set_cons_succ]
          refine wpAnyH_ready (rs := [6]) (by kernel_rfl) (by simp) (AllReadyH.cons (o := { dst := some 28, op := _, type := _, pos := _, after := _, guard := _ }) rfl (fun K hK => ?_) AllReadyH.nil)
          go_simp
          go_wp2_with fail
          refine hK.out _ _ ?_ (fun hHeld => ?_)
          · exact ⟨(HG.out.keep Hbel.out).cell 0, (HG.out.keep Hbel.out).cell 1⟩
          clear hK K
          try simp only [Act.put, List.setIfInBounds_toArray, List.set_cons_zero, List.set_cons_succ]
          refine wpAnyH_ready (rs := [7]) (by kernel_rfl) (by simp) (AllReadyH.cons (o := { dst := some 29, op := _, type := _, pos := _, after := _, guard := _ }) rfl (fun K hK => ?_) AllReadyH.nil)
          rw [if_pos (by rfl)]
          refine op_appS (.tmp 26) (.tmp 28) 33 rfl 79 _ 2 24 Try.underlying33 sub_info rfl (by decide) base S l.length ks (subVs l) rfl (ownS_keep HR.out Hbel.out) (some ⟨U.heap.size, 0, none⟩) 1 1 (subVs [(f, (c : Int))]) rfl Hrd.out (subVs_one _) (by unfold maxLen; omega) (by omega) (Nat.le_trans hbz Hbel.out.size) ?_
          intro A3 k3 w3 o3 b3 h3
          have hb3 : But (fun i => base ≤ i) U w3 := (But.ofBelow Hbel.out _).trans (b3.wide (fun i ⟨o, e⟩ => ownS_new HR.out i o e)) (fun _ _ e => e)
          have HG3 := (HG.out.keep Hbel.out).but b3 hSgs
          have hP3 := HP.out.but hb3 (by omega)
          have c17 := (Blk.p18 hP3).2.2.2.2.2.2.2.2.2.2.2.2.2.2.2.2.2
          have f17 := Blk.frozen hP3 17
          have HP3 := hide hP3
          have HS3 := hide (HS.out.but hb3 (by omega) (fun i hi => v.new i (Nat.le_trans hvb hi)))
          have O3 := hide o3
          have Hb3 := hide hb3
          have HG3 := hide HG3
          clear hP3 o3 hb3 b3 h3
          refine hK.out _ _ ?_ (fun hHeld => ?_)
          · exact ⟨HG3.out.cell 0, HG3.out.cell 1⟩
          clear hK K
          try simp only [Act.put, List.setIfInBounds_toArray, List.set_cons_zero, List.set_cons_succ]
          refine wpAnyH_take (i := 8) (oi := { dst := some 30, op := _, type := _, pos := _, after := _, guard := _ }) (v := ?v4x9) rfl (by kernel_rfl) (by kernel_rfl) (by kernel_rfl) (fun _ _ _ h => h) (Or.inl ⟨by rfl, ?hy4x9⟩) hHeld ?rest4x9
          case hy4x9 => (intro w hSw; go_simp <;> with_reducible rfl)
          try simp only [Act.put, List.setIfInBounds_toArray, List.set_cons_zero, List.set_cons_succ]
          refine wpAnyH_take (i := 9) (oi := { dst := some 31, op := _, type := _, pos := _, after := _, guard := _ }) (v := ?v4x10) rfl (by kernel_rfl) (by kernel_rfl) (by kernel_rfl) (fun _ _ _ h => h) (Or.inl ⟨by rfl, ?hy4x10⟩) hHeld ?rest4x10
          case hy4x10 => (intro w hSw; go_simp <;> with_reducible rfl)
          try simp only [Act.put, List.setIfInBounds_toArray, List.set_cons_zero, List.set_cons_succ]
          refine wpAnyH_ready (rs := [10]) (by kernel_rfl) (by simp) (AllReadyH.cons (o := { dst := none, op := _, type := _, pos := _, after := _, guard := _ }) rfl (fun K hK => ?_) AllReadyH.nil)
          go_simp
          go_wp2_with fail
          refine hK.out _ _ ?_ (fun hHeld => ?_)
          · exact ⟨(Blk.oth HG3.out (fun e => hgsp e.symm) _ _).cell 0, (Blk.oth HG3.out (fun e => hgsp e.symm) _ _).cell 1⟩
          clear hK K
          try simp only [Act.put, List.setIfInBounds_toArray, List.set_cons_zero, List.set_cons_succ]
          refine wpAnyH_done (by kernel_rfl) ?_ _
        case' way4x6x6 =>
          go_simp
          go_wp2_with fail
          refine hK.out _ _ ?_ (fun hHeld => ?_)
          · exact ⟨(HG.out.keep Hbel.out).cell 0, (HG.out.keep Hbel.out).cell 1⟩
          clear hK K
          try simp only [Act.put, List.setIfInBounds_toArray, List.set_cons_zero, List.set_cons_succ]
          refine wpAnyH_ready (rs := [4]) (by kernel_rfl) (by simp) (AllReadyH.cons (o := { dst := some 26, op := _, type := _, pos := _, after := _, guard := _ }) rfl (fun K hK => ?_) AllReadyH.nil)
          go_simp
          go_wp2_with fail
          refine hK.out _ _ ?_ (fun hHeld => ?_)
          · exact hHeld
          clear hK K
          try simp only [Act.put, List.setIfInBounds_toArray, List.set_cons_zero, List.set_cons_succ]
          refine wpAnyH_ready (rs := [7]) (by kernel_rfl) (by simp) (AllReadyH.cons (o := { dst := some 29, op := _, type := _, pos := _, after := _, guard := _ }) rfl (fun K hK => ?_) AllReadyH.nil)
          rw [if_pos (by rfl)]
          refine op_appS (.tmp 26) (.tmp 28) 33 rfl 79 _ 2 24 Try.underlying33 sub_info rfl (by decide) base S l.length ks (subVs l) rfl (ownS_keep HR.out Hbel.out) (some ⟨U.heap.size, 0, none⟩) 1 1 (subVs [(f, (c : Int))]) rfl Hrd.out (subVs_one _) (by unfold maxLen; omega) (by omega) (Nat.le_trans hbz Hbel.out.size) ?_
          intro A3 k3 w3 o3 b3 h3
          have hb3 : But (fun i => base ≤ i) U w3 := (But.ofBelow Hbel.out _).trans (b3.wide (fun i ⟨o, e⟩ => ownS_new HR.out i o e)) (fun _ _ e => e)
          have HG3 := (HG.out.keep Hbel.out).but b3 hSgs
          have hP3 := HP.out.but hb3 (by omega)
          have c17 := (Blk.p18 hP3).2.2.2.2.2.2.2.2.2.2.2.2.2.2.2.2.2
          have f17 := Blk.frozen hP3 17
          have HP3 := hide hP3
          have HS3 := hide (HS.out.but hb3 (by omega) (fun i hi => v.new i (Nat.le_trans hvb hi)))
          have O3 := hide o3
          have Hb3 := hide hb3
          have HG3 := hide HG3
          clear hP3 o3 hb3 b3 h3
          refine hK.out _ _ ?_ (fun hHeld => ?_)
          · exact ⟨HG3.out.cell 0, HG3.out.cell 1⟩
          clear hK K
          try simp only [Act.put, List.setIfInBounds_toArray, List.set_cons_zero, List.set_cons_succ]
          refine wpAnyH_take (i := 8) (oi := { dst := some 30, op := _, type := _, pos := _, after := _, guard := _ }) (v := ?v4x14) rfl (by kernel_rfl) (by kernel_rfl) (by kernel_rfl) (fun _ _ _ h => h) (Or.inl ⟨by rfl, ?hy4x14⟩) hHeld ?rest4x14
          case hy4x14 => (intro w hSw; go_simp <;> with_reducible rfl)
          try simp only [Act.put, List.setIfInBounds_toArray, List.set_cons_zero, List.set_cons_succ]
          refine wpAnyH_take (i := 9) (oi := { dst := some 31, op := _, type := _, pos := _, after := _, guard := _ }) (v := ?v4x15) rfl (by kernel_rfl) (by kernel_rfl) (by kernel_rfl) (fun _ _ _ h => h) (Or.inl ⟨by rfl, ?hy4x15⟩) hHeld ?rest4x15
          case hy4x15 => (intro w hSw; go_simp <;> with_reducible rfl)
          try simp only [Act.put, List.setIfInBounds_toArray, List.set_cons_zero, List.set_cons_succ]
          refine wpAnyH_ready (rs := [10]) (by kernel_rfl) (by simp) (AllReadyH.cons (o := { dst := none, op := _, type := _, pos := _, after := _, guard := _ }) rfl (fun K hK => ?_) AllReadyH.nil)
          go_simp
          go_wp2_with fail
          refine hK.out _ _ ?_ (fun hHeld => ?_)
          · exact ⟨(Blk.oth HG3.out (fun e => hgsp e.symm) _ _).cell 0, (Blk.oth HG3.out (fun e => hgsp e.symm) _ _).cell 1⟩
          clear hK K
          try simp only [Act.put, List.setIfInBounds_toArray, List.set_cons_zero, List.set_cons_succ]
          refine wpAnyH_done (by kernel_rfl) ?_ _
        all_goals
          clear hHeld c17 f17 g0 g1
          go_wp2_with fail
          refine ⟨⟨l ++ [(f, (c : Int))], r2, K', A3, k3, by simp; omega, by omega, ?_, ?_, ?_, HS3.out.set hne hvp 17 _, by have := Hb3.out.size; simp; omega⟩, ?_⟩
          · rw [← HE.out]
            exact namE_step _ _ _ _ _
          · have h1 := ownS_but O3.out (But.setCell (S := fun i => i = gp) w3 (.slice A3 (l.length + 1) k3) rfl (i := 17)) (fun b o e h => by have := ownS_new O3.out b o e; have h' : b = gp := h; omega)
            rw [List.length_append, subVs_append]
            exact h1
          · rw [List.length_append]
            exact Blk.set HP3.out 17 _
          · have h1 := (HS3.out.set hne hvp 17 (.slice A3 (l.length + 1) k3)).pos
            have h2 := Hpos.out
            have h3 := Hm.out
            omega
      | false =>
        have HE := hide (show namE t d l ((subsQ false K' r1).bind fun l => some ((f, (0 : Int)) :: l)) = O from by rw [← HE.out, if_neg (by simp)]; rfl)
        go_wp2_with fail
        rw [HU1.out, Hgs.out]
        have hbel : Below U1.heap.size U1 (U1.drew.alloc (.cells #[.string (str f), .int .i64 0] 79)) := ((Below.refl _ _).drew).alloc (Nat.le_refl _) _
        have hrd : Rd (U1.drew.alloc (.cells #[.string (str f), .int .i64 0] 79)) (some ⟨U1.heap.size, 0, none⟩) 2 (subVs [(f, 0)]) := (Blk.new U1.drew 79 [.string (str f), .int .i64 0]).rd
        have Hbel := hide hbel
        have Hrd := hide hrd
        obtain ⟨g0, g1⟩ : U1.cell? ⟨gs, 0, none⟩ = some (.string (str f)) ∧ U1.cell? ⟨gs, 1, none⟩ = some (.int .i64 0) := ⟨HG.out.cell 0, HG.out.cell 1⟩
        have c17 := (Blk.p18 HP.out).2.2.2.2.2.2.2.2.2.2.2.2.2.2.2.2.2
        have l17 := Blk.lt HP.out
        have hll : l.length ≤ 65535 := by omega
        clear hbel hrd
        refine wp_region_held_drew (S := fun W => W.cell? ⟨gs, 0, none⟩ = some (.string (str f)) ∧ W.cell? ⟨gs, 1, none⟩ = some (.int .i64 0)) (by kernel_rfl) ?_ (fun hHeld => ?_)
        · exact ⟨g0, g1⟩
        refine wpAnyH_take (i := 0) (oi := { dst := some 22, op := _, type := _, pos := _, after := _, guard := _ }) (v := ?v5x1) rfl (by kernel_rfl) (by kernel_rfl) (by kernel_rfl) (fun _ _ _ h => h) (Or.inl ⟨by rfl, ?hy5x1⟩) hHeld ?rest5x1
        case hy5x1 => (intro w hSw; go_simp <;> with_reducible rfl)
        try simp only [Act.put, List.setIfInBounds_toArray, List.set_cons_zero, List.set_cons_succ]
        refine wpAnyH_take (i := 1) (oi := { dst := some 23, op := _, type := _, pos := _, after := _, guard := _ }) (v := ?v5x2) rfl (by kernel_rfl) (by kernel_rfl) (by kernel_rfl) (fun _ _ _ h => h) (Or.inl ⟨by rfl, ?hy5x2⟩) hHeld ?rest5x2
        case hy5x2 => (intro w hSw; go_simp <;> with_reducible rfl)
        try simp only [Act.put, List.setIfInBounds_toArray, List.set_cons_zero, List.set_cons_succ]
        refine wpAnyH_take (i := 2) (oi := { dst := some 24, op := _, type := _, pos := _, after := _, guard := _ }) (v := ?v5x3) rfl (by kernel_rfl) (by kernel_rfl) (by kernel_rfl) (fun _ _ _ h => h) (Or.inl ⟨by rfl, ?hy5x3⟩) hHeld ?rest5x3
        case hy5x3 => (intro w hSw; go_simp <;> with_reducible rfl)
        try simp only [Act.put, List.setIfInBounds_toArray, List.set_cons_zero, List.set_cons_succ]
        refine wpAnyH_take (i := 3) (oi := { dst := some 25, op := _, type := _, pos := _, after := _, guard := _ }) (v := ?v5x4) rfl (by kernel_rfl) (by kernel_rfl) (by kernel_rfl) (fun _ _ _ h => h) (Or.inl ⟨by rfl, ?hy5x4⟩) hHeld ?rest5x4
        case hy5x4 => (intro w hSw; go_simp <;> with_reducible rfl)
        try simp only [Act.put, List.setIfInBounds_toArray, List.set_cons_zero, List.set_cons_succ]
        refine wpAnyH_take (i := 5) (oi := { dst := some 27, op := _, type := _, pos := _, after := _, guard := _ }) (v := ?v5x5) rfl (by kernel_rfl) (by kernel_rfl) (by kernel_rfl) (fun _ _ _ h => h) (Or.inl ⟨by rfl, ?hy5x5⟩) hHeld ?rest5x5
        case hy5x5 => (intro w hSw; go_simp <;> with_reducible rfl)
        try simp only [Act.put, List.setIfInBounds_toArray, List.set_cons_zero, List.set_cons_succ]
        refine wpAnyH_ready (rs := [4, 6]) (by kernel_rfl) (by simp) (AllReadyH.cons (o := { dst := some 26, op := _, type := _, pos := _, after := _, guard := _ }) rfl (fun K hK => ?way5x6x4) (AllReadyH.cons (o := { dst := some 28, op := _, type := _, pos := _, after := _, guard := _ }) rfl (fun K hK => ?way5x6x6) AllReadyH.nil))
        case' way5x6x4 =>
          go_simp
          go_wp2_with fail
          refine hK.out _ _ ?_ (fun hHeld => ?_)
          · exact hHeld
          clear hK K
          try simp only [Act.put, List.setIfInBounds_toArray, List.set_cons_zero, List.set_cons_succ]
          refine wpAnyH_ready (rs := [6]) (by kernel_rfl) (by simp) (AllReadyH.cons (o := { dst := some 28, op := _, type := _, pos := _, after := _, guard := _ }) rfl (fun K hK => ?_) AllReadyH.nil)
          go_simp
          go_wp2_with fail
          refine hK.out _ _ ?_ (fun hHeld => ?_)
          · exact ⟨(HG.out.keep Hbel.out).cell 0, (HG.out.keep Hbel.out).cell 1⟩
          clear hK K
          try simp only [Act.put, List.setIfInBounds_toArray, List.set_cons_zero, List.set_cons_succ]
          refine wpAnyH_ready (rs := [7]) (by kernel_rfl) (by simp) (AllReadyH.cons (o := { dst := some 29, op := _, type := _, pos := _, after := _, guard := _ }) rfl (fun K hK => ?_) AllReadyH.nil)
          rw [if_pos (by rfl)]
          refine op_appS (.tmp 26) (.tmp 28) 33 rfl 79 _ 2 24 Try.underlying33 sub_info rfl (by decide) base S l.length ks (subVs l) rfl (ownS_keep HR.out Hbel.out) (some ⟨U1.heap.size, 0, none⟩) 1 1 (subVs [(f, 0)]) rfl Hrd.out (subVs_one _) (by unfold maxLen; omega) (by omega) (Nat.le_trans hbz Hbel.out.size) ?_
          intro A3 k3 w3 o3 b3 h3
          have hb3 : But (fun i => base ≤ i) U1 w3 := (But.ofBelow Hbel.out _).trans (b3.wide (fun i ⟨o, e⟩ => ownS_new HR.out i o e)) (fun _ _ e => e)
          have HG3 := (HG.out.keep Hbel.out).but b3 hSgs
          have hP3 := HP.out.but hb3 (by omega)
          have c17 := (Blk.p18 hP3).2.2.2.2.2.2.2.2.2.2.2.2.2.2.2.2.2
          have f17 := Blk.frozen hP3 17
          have HP3 := hide hP3
          have HS3 := hide (HS.out.but hb3 (by omega) (fun i hi => v.new i (Nat.le_trans hvb hi)))
          have O3 := hide o3
          have Hb3 := hide hb3
          have HG3 := hide HG3
          clear hP3 o3 hb3 b3 h3
          refine hK.out _ _ ?_ (fun hHeld => ?_)
          · exact ⟨HG3.out.cell 0, HG3.out.cell 1⟩
          clear hK K
          try simp only [Act.put, List.setIfInBounds_toArray, List.set_cons_zero, List.set_cons_succ]
          refine wpAnyH_take (i := 8) (oi := { dst := some 30, op := _, type := _, pos := _, after := _, guard := _ }) (v := ?v5x9) rfl (by kernel_rfl) (by kernel_rfl) (by kernel_rfl) (fun _ _ _ h => h) (Or.inl ⟨by rfl, ?hy5x9⟩) hHeld ?rest5x9
          case hy5x9 => (intro w hSw; go_simp <;> with_reducible rfl)
          try simp only [Act.put, List.setIfInBounds_toArray, List.set_cons_zero, List.set_cons_succ]
          refine wpAnyH_take (i := 9) (oi := { dst := some 31, op := _, type := _, pos := _, after := _, guard := _ }) (v := ?v5x10) rfl (by kernel_rfl) (by kernel_rfl) (by kernel_rfl) (fun _ _ _ h => h) (Or.inl ⟨by rfl, ?hy5x10⟩) hHeld ?rest5x10
          case hy5x10 => (intro w hSw; go_simp <;> with_reducible rfl)
          try simp only [Act.put, List.setIfInBounds_toArray, List.set_cons_zero, List.set_cons_succ]
          refine wpAnyH_ready (rs := [10]) (by kernel_rfl) (by simp) (AllReadyH.cons (o := { dst := none, op := _, type := _, pos := _, after := _, guard := _ }) rfl (fun K hK => ?_) AllReadyH.nil)
          go_simp
          go_wp2_with fail
          refine hK.out _ _ ?_ (fun hHeld => ?_)
          · exact ⟨(Blk.oth HG3.out (fun e => hgsp e.symm) _ _).cell 0, (Blk.oth HG3.out (fun e => hgsp e.symm) _ _).cell 1⟩
          clear hK K
          try simp only [Act.put, List.setIfInBounds_toArray, List.set_cons_zero, List.set_cons_succ]
          refine wpAnyH_done (by kernel_rfl) ?_ _
        case' way5x6x6 =>
          go_simp
          go_wp2_with fail
          refine hK.out _ _ ?_ (fun hHeld => ?_)
          · exact ⟨(HG.out.keep Hbel.out).cell 0, (HG.out.keep Hbel.out).cell 1⟩
          clear hK K
          try simp only [Act.put, List.setIfInBounds_toArray, List.set_cons_zero, List.set_cons_succ]
          refine wpAnyH_ready (rs := [4]) (by kernel_rfl) (by simp) (AllReadyH.cons (o := { dst := some 26, op := _, type := _, pos := _, after := _, guard := _ }) rfl (fun K hK => ?_) AllReadyH.nil)
          go_simp
          go_wp2_with fail
          refine hK.out _ _ ?_ (fun hHeld => ?_)
          · exact hHeld
          clear hK K
          try simp only [Act.put, List.setIfInBounds_toArray, List.set_cons_zero, List.set_cons_succ]
          refine wpAnyH_ready (rs := [7]) (by kernel_rfl) (by simp) (AllReadyH.cons (o := { dst := some 29, op := _, type := _, pos := _, after := _, guard := _ }) rfl (fun K hK => ?_) AllReadyH.nil)
          rw [if_pos (by rfl)]
          refine op_appS (.tmp 26) (.tmp 28) 33 rfl 79 _ 2 24 Try.underlying33 sub_info rfl (by decide) base S l.length ks (subVs l) rfl (ownS_keep HR.out Hbel.out) (some ⟨U1.heap.size, 0, none⟩) 1 1 (subVs [(f, 0)]) rfl Hrd.out (subVs_one _) (by unfold maxLen; omega) (by omega) (Nat.le_trans hbz Hbel.out.size) ?_
          intro A3 k3 w3 o3 b3 h3
          have hb3 : But (fun i => base ≤ i) U1 w3 := (But.ofBelow Hbel.out _).trans (b3.wide (fun i ⟨o, e⟩ => ownS_new HR.out i o e)) (fun _ _ e => e)
          have HG3 := (HG.out.keep Hbel.out).but b3 hSgs
          have hP3 := HP.out.but hb3 (by omega)
          have c17 := (Blk.p18 hP3).2.2.2.2.2.2.2.2.2.2.2.2.2.2.2.2.2
          have f17 := Blk.frozen hP3 17
          have HP3 := hide hP3
          have HS3 := hide (HS.out.but hb3 (by omega) (fun i hi => v.new i (Nat.le_trans hvb hi)))
          have O3 := hide o3
          have Hb3 := hide hb3
          have HG3 := hide HG3
          clear hP3 o3 hb3 b3 h3
          refine hK.out _ _ ?_ (fun hHeld => ?_)
          · exact ⟨HG3.out.cell 0, HG3.out.cell 1⟩
          clear hK K
          try simp only [Act.put, List.setIfInBounds_toArray, List.set_cons_zero, List.set_cons_succ]
          refine wpAnyH_take (i := 8) (oi := { dst := some 30, op := _, type := _, pos := _, after := _, guard := _ }) (v := ?v5x14) rfl (by kernel_rfl) (by kernel_rfl) (by kernel_rfl) (fun _ _ _ h => h) (Or.inl ⟨by rfl, ?hy5x14⟩) hHeld ?rest5x14
          case hy5x14 => (intro w hSw; go_simp <;> with_reducible rfl)
          try simp only [Act.put, List.setIfInBounds_toArray, List.set_cons_zero, List.set_cons_succ]
          refine wpAnyH_take (i := 9) (oi := { dst := some 31, op := _, type := _, pos := _, after := _, guard := _ }) (v := ?v5x15) rfl (by kernel_rfl) (by kernel_rfl) (by kernel_rfl) (fun _ _ _ h => h) (Or.inl ⟨by rfl, ?hy5x15⟩) hHeld ?rest5x15
          case hy5x15 => (intro w hSw; go_simp <;> with_reducible rfl)
          try simp only [Act.put, List.setIfInBounds_toArray, List.set_cons_zero, List.set_cons_succ]
          refine wpAnyH_ready (rs := [10]) (by kernel_rfl) (by simp) (AllReadyH.cons (o := { dst := none, op := _, type := _, pos := _, after := _, guard := _ }) rfl (fun K hK => ?_) AllReadyH.nil)
          go_simp
          go_wp2_with fail
          refine hK.out _ _ ?_ (fun hHeld => ?_)
          · exact ⟨(Blk.oth HG3.out (fun e => hgsp e.symm) _ _).cell 0, (Blk.oth HG3.out (fun e => hgsp e.symm) _ _).cell 1⟩
          clear hK K
          try simp only [Act.put, List.setIfInBounds_toArray, List.set_cons_zero, List.set_cons_succ]
          refine wpAnyH_done (by kernel_rfl) ?_ _
        all_goals
          clear hHeld c17 f17 g0 g1
          go_wp2_with fail
          refine ⟨⟨l ++ [(f, 0)], r1, K', A3, k3, by simp; omega, by omega, ?_, ?_, ?_, HS3.out.set hne hvp 17 _, by have := Hb3.out.size; simp; omega⟩, ?_⟩
          · rw [← HE.out]
            exact namE_step _ _ _ _ _
          · have h1 := ownS_but O3.out (But.setCell (S := fun i => i = gp) w3 (.slice A3 (l.length + 1) k3) rfl (i := 17)) (fun b o e h => by have := ownS_new O3.out b o e; have h' : b = gp := h; omega)
            rw [List.length_append, subVs_append]
            exact h1
          · rw [List.length_append]
            exact Blk.set HP3.out 17 _
          · have h1 := (HS3.out.set hne hvp 17 (.slice A3 (l.length + 1) k3)).pos
            have h2 := Hpos.out
            have h3 := Hm.out
            omega

end Go.Proofs.Ytkgidimaiedocaa

namespace Go.Proofs.Ytkgidimaiedocaa
set_option linter.unusedVariables false
set_option linter.unusedSimpArgs false
open Go.RowKit

set_option maxRecDepth 100000 in
set_option maxHeartbeats 4000000 in
theorem rrFields_any (t low : Nat) (v : Bs) (xs : List UInt8) (A : Option Addr) (n k g gp : Nat) (ys : List UInt8) (w : World) (hl : low < 16) (hb : RrB v xs A n k) (h : RrS v xs A n k g ys w) (hp : PkZ w gp (zeroP t)) (hne : ¬ gp = g) (hvp : v.S gp) : Calls Try.prog 130 #[.pointer (some ⟨g, 0, none⟩), .pointer (some ⟨gp, 0, none⟩), .int .i64 (low : Int)] w (FPost v xs A n k g gp (fieldsQ t low ys)) := by
  have HP := hide hp
  have HS := hide h
  obtain ⟨O, hO⟩ : ∃ O, fieldsQ t low ys = O := ⟨_, rfl⟩
  rw [hO]
  have HO := hide hO
  have c0 : w.cell? ⟨gp, 0, none⟩ = some (.int .i64 (t : Int)) := (Blk.p18 hp).1
  have f2 := HP.out.frozen 2
  clear h hp hO
  by_cases c1 : t = 1
  · subst c1
    have hO : conQ ys = O := by rw [← HO.out]; rfl
    go_enter Try.func130, Try.ntmps130
    go_wp2_with fail
    refine (rrConnect_any v xs A n k g gp ys w hb HS.out HP.out hne hvp).mono ?_
    rw [hO]
    clear HO hO
    intro e w1 hF
    cases O with
    | none =>
      obtain ⟨rfl, hv1⟩ := hF
      go_wp2_with fail
      all_goals exact ⟨rfl, rfl, hv1⟩
    | some z =>
      obtain ⟨rfl, hF⟩ := hF
      have HF := hide hF
      clear hF
      go_wp2_with fail
      go_end0
      exact ⟨rfl, HF.out⟩
  by_cases c2 : t = 2
  · subst c2
    have hO : welQ ys = O := by rw [← HO.out]; rfl
    go_enter Try.func130, Try.ntmps130
    go_wp2_with fail
    refine (rrWelcome_any v xs A n k g gp ys w hb HS.out HP.out hne hvp).mono ?_
    rw [hO]
    clear HO hO
    intro e w1 hF
    cases O with
    | none =>
      obtain ⟨rfl, hv1⟩ := hF
      go_wp2_with fail
      all_goals exact ⟨rfl, rfl, hv1⟩
    | some z =>
      obtain ⟨rfl, hF⟩ := hF
      have HF := hide hF
      clear hF
      go_wp2_with fail
      go_end0
      exact ⟨rfl, HF.out⟩
  by_cases c3 : t = 3
  · subst c3
    have hO : pubQ low ys = O := by rw [← HO.out]; rfl
    go_enter Try.func130, Try.ntmps130
    go_wp2_with fail
    refine (rrPublish_any v xs A n k g gp low ys w hl hb HS.out HP.out hne hvp).mono ?_
    rw [hO]
    clear HO hO
    intro e w1 hF
    cases O with
    | none =>
      obtain ⟨rfl, hv1⟩ := hF
      go_wp2_with fail
      all_goals exact ⟨rfl, rfl, hv1⟩
    | some z =>
      obtain ⟨rfl, hF⟩ := hF
      have HF := hide hF
      clear hF
      go_wp2_with fail
      go_end0
      exact ⟨rfl, HF.out⟩
  by_cases c4 : t = 4 ∨ t = 5 ∨ t = 6 ∨ t = 7 ∨ t = 11
  · have hO : ackQ t ys = O := by rw [← HO.out]; unfold fieldsQ; rw [if_neg c1, if_neg c2, if_neg c3, if_pos c4]
    unfold ackQ at hO
    have HO := hide hO
    have P1 := rrWord_any v xs A n k g ys w hb HS.out
    clear hO
    cases hq1 : qW ys with
    | none =>
      have h0 : O = none := by rw [← HO.out, hq1]; rfl
      have P1 := hide (RrPost.no P1 hq1)
      clear c1 c2 c3 hq1
      rw [h0]
      rcases c4 with rfl | rfl | rfl | rfl | rfl
      all_goals
        go_enter Try.func130, Try.ntmps130
        go_wp2_with fail
        refine P1.out.mono ?_
        rintro e w1 ⟨rfl, hv1⟩
        go_wp2_with fail
        all_goals first | exact ⟨rfl, rfl, hv1⟩ | exact ⟨rfl, by rw [h0]; exact ⟨rfl, hv1⟩⟩
    | some z =>
      obtain ⟨d, y2⟩ := z
      have h0 : O = some ({ zeroP t with id := (d : Int) }, y2) := by rw [← HO.out, hq1]; rfl
      have P1 := hide (RrPost.ok P1 hq1)
      have H0 := hide h0
      clear c1 c2 c3 hq1 h0
      rcases c4 with rfl | rfl | rfl | rfl | rfl
      all_goals
        go_enter Try.func130, Try.ntmps130
        go_wp2_with fail
        refine P1.out.mono ?_
        rintro e w1 ⟨rfl, s1, b1⟩
        have HP := hide (HP.out.but b1 hne)
        have c2 := (Blk.p18 HP.out).2.2.1
        have f2 := HP.out.frozen 2
        go_wp2_with fail
        go_end0
        rw [H0.out]
        exact ⟨rfl, s1.set hne hvp 2 _, none, 0, 0, none, 0, 0, Blk.set HP.out 2 _, NewAt.nil _, NewAt.nil _, rfl, Nat.le_refl _, Rd.nil _ _, rfl, Nat.le_refl _, Rd.nil _ _⟩
  by_cases c8 : t = 8
  · subst c8
    have hO : namQ 8 true ys = O := by rw [← HO.out]; rfl
    go_enter Try.func130, Try.ntmps130
    go_wp2_with fail
    refine (rrNames_any 8 true v xs A n k g gp ys w hb HS.out HP.out hne hvp).mono ?_
    rw [hO]
    clear HO hO
    intro e w1 hF
    cases O with
    | none =>
      obtain ⟨rfl, hv1⟩ := hF
      go_wp2_with fail
      all_goals exact ⟨rfl, rfl, hv1⟩
    | some z =>
      obtain ⟨rfl, hF⟩ := hF
      have HF := hide hF
      clear hF
      go_wp2_with fail
      go_end0
      exact ⟨rfl, HF.out⟩
  by_cases c9 : t = 9
  · subst c9
    have hO : codQ ys = O := by rw [← HO.out]; rfl
    go_enter Try.func130, Try.ntmps130
    go_wp2_with fail
    refine (rrCodes_any v xs A n k g gp ys w hb HS.out HP.out hne hvp).mono ?_
    rw [hO]
    clear HO hO
    intro e w1 hF
    cases O with
    | none =>
      obtain ⟨rfl, hv1⟩ := hF
      go_wp2_with fail
      all_goals exact ⟨rfl, rfl, hv1⟩
    | some z =>
      obtain ⟨rfl, hF⟩ := hF
      have HF := hide hF
      clear hF
      go_wp2_with fail
      go_end0
      exact ⟨rfl, HF.out⟩
  by_cases c10 : t = 10
  · subst c10
    have hO : namQ 10 false ys = O := by rw [← HO.out]; rfl
    go_enter Try.func130, Try.ntmps130
    go_wp2_with fail
    refine (rrNames_any 10 false v xs A n k g gp ys w hb HS.out HP.out hne hvp).mono ?_
    rw [hO]
    clear HO hO
    intro e w1 hF
    cases O with
    | none =>
      obtain ⟨rfl, hv1⟩ := hF
      go_wp2_with fail
      all_goals exact ⟨rfl, rfl, hv1⟩
    | some z =>
      obtain ⟨rfl, hF⟩ := hF
      have HF := hide hF
      clear hF
      go_wp2_with fail
      go_end0
      exact ⟨rfl, HF.out⟩
  have hO : some (zeroP t, ys) = O := by rw [← HO.out]; unfold fieldsQ; rw [if_neg c1, if_neg c2, if_neg c3, if_neg c4, if_neg c8, if_neg c9, if_neg c10]
  have H0 := hide hO
  have q1 : ((t : Int) == 1) = false := by simp; omega
  have q2 : ((t : Int) == 2) = false := by simp; omega
  have q3 : ((t : Int) == 3) = false := by simp; omega
  have q4 : ((t : Int) == 4) = false := by simp; omega
  have q5 : ((t : Int) == 5) = false := by simp; omega
  have q6 : ((t : Int) == 6) = false := by simp; omega
  have q7 : ((t : Int) == 7) = false := by simp; omega
  have q11 : ((t : Int) == 11) = false := by simp; omega
  have q8 : ((t : Int) == 8) = false := by simp; omega
  have q9 : ((t : Int) == 9) = false := by simp; omega
  have q10 : ((t : Int) == 10) = false := by simp; omega
  clear hO c1 c2 c3 c4 c8 c9 c10
  go_enter Try.func130, Try.ntmps130
  go_wp2_with fail
  go_end0
  rw [← H0.out]
  exact ⟨rfl, HS.out, none, 0, 0, none, 0, 0, HP.out, NewAt.nil _, NewAt.nil _, rfl, Nat.le_refl _, Rd.nil _ _, rfl, Nat.le_refl _, Rd.nil _ _⟩

end Go.Proofs.Ytkgidimaiedocaa

namespace Go.Proofs.Ytkgidimaiedocaa
set_option linter.unusedVariables false
set_option linter.unusedSimpArgs false
open Go.RowKit

/-- What the reading of a whole packet comes to. -/
def KPost (v : Bs) (o : Option Pk) (e : Ending) (w' : World) : Prop := match o with
  | none => e = .panicked gvP ∧ But v.S v.v w'
  | some p => ∃ C nc kc S ns ks, e = .returned (pkA p C nc kc S ns ks) ∧ NewAt v.v C ∧ NewAt v.v S ∧ PkM w' p C nc kc S ns ks ∧ But v.S v.v w'

theorem fieldsQ_qos {t low : Nat} {ys : List UInt8} {z : Pk × List UInt8} (h : fieldsQ t low ys = some z) : z.1.ty = 3 → 0 ≤ z.1.qos ∧ z.1.qos ≤ 3 := by
  unfold fieldsQ at h
  split at h
  · rename_i h1
    intro h3
    have := (conQ_some h).2
    omega
  split at h
  · intro h3
    unfold welQ at h
    obtain ⟨a, ha, h⟩ := Option.bind_eq_some_iff.1 h
    split at h
    · obtain ⟨c, hc, h⟩ := Option.bind_eq_some_iff.1 h
      injection h with h
      subst h
      have e : (2 : Int) = 3 := h3
      omega
    · cases h
  split at h
  · intro _
    unfold pubQ at h
    obtain ⟨a, ha, h⟩ := Option.bind_eq_some_iff.1 h
    obtain ⟨c, hc, h⟩ := Option.bind_eq_some_iff.1 h
    injection h with h
    subst h
    show (0 : Int) ≤ ((low / 2 % 4 : Nat) : Int) ∧ ((low / 2 % 4 : Nat) : Int) ≤ 3
    omega
  split at h
  · rename_i h4
    intro h3
    unfold ackQ at h
    obtain ⟨c, hc, h⟩ := Option.bind_eq_some_iff.1 h
    injection h with h
    subst h
    have e : (t : Int) = 3 := h3
    omega
  have nam : ∀ (t : Nat) (q : Bool), ¬ t = 3 → namQ t q ys = some z → z.1.ty = 3 → 0 ≤ z.1.qos ∧ z.1.qos ≤ 3 := by
    intro t q ht h h3
    unfold namQ at h
    obtain ⟨i, hi, h⟩ := Option.bind_eq_some_iff.1 h
    obtain ⟨l, hl, h⟩ := Option.bind_eq_some_iff.1 h
    injection h with h
    subst h
    have e : (t : Int) = 3 := h3
    omega
  split at h
  · exact nam 8 true (by decide) h
  split at h
  · intro h3
    unfold codQ at h
    obtain ⟨c, hc, h⟩ := Option.bind_eq_some_iff.1 h
    injection h with h
    subst h
    have e : (9 : Int) = 3 := h3
    omega
  split at h
  · exact nam 10 false (by decide) h
  · rename_i n3 _ _ _ _
    intro h3
    injection h with h
    subst h
    have e : (t : Int) = 3 := h3
    omega

theorem RrS.up {v v2 : Bs} {w : World} {xs : List UInt8} {A : Option Addr} {n k g : Nat} {ys : List UInt8} (h : RrS v2 xs A n k g ys w) (b : But v.S v.v v2.v) (hs : ∀ i, v2.S i → v.S i) : RrS v xs A n k g ys w := by
  obtain ⟨i, hB, hi, hd, hg, hv⟩ := h
  exact ⟨i, hB, hi, hd, hs g hg, b.trans hv (fun j _ e => hs j e)⟩
theorem RrS.S {v : Bs} {w : World} {xs : List UInt8} {A : Option Addr} {n k g : Nat} {ys : List UInt8} (h : RrS v xs A n k g ys w) : v.S g := by
  obtain ⟨i, hB, hi, hd, hg, hv⟩ := h
  exact hg

set_option maxRecDepth 100000 in
set_option maxHeartbeats 4000000 in
theorem rrPacket_any (v : Bs) (xs : List UInt8) (A : Option Addr) (n k g : Nat) (w : World) (hb : RrB v xs A n k) (h : RrS v xs A n k g xs w) : Calls Try.prog 118 #[.pointer (some ⟨g, 0, none⟩)] w (KPost v (readQ xs)) := by
  obtain ⟨O, hO⟩ : ∃ O, readQ xs = O := ⟨_, rfl⟩
  rw [hO]
  unfold readQ at hO
  have HO := hide hO
  have HS := hide h
  have hwz := h.low.size
  clear h hO
  go_enter Try.func118, Try.ntmps118
  go_wp2_with fail
  obtain ⟨g1, hg1⟩ : ∃ g1, w.heap.size = g1 := ⟨_, rfl⟩
  generalize hW : w.alloc _ = V1
  have hz : w.alloc (.cells (arr (pkVs (zeroP 0) none 0 0 none 0 0)) 35) = V1 := hW
  have HZ := hide (show Blk V1 g1 35 (pkVs (zeroP 0) none 0 0 none 0 0) from by rw [← hz, ← hg1]; exact Blk.new w _ _)
  have HS := hide (HS.out.keep (show Below w.heap.size w V1 from by rw [← hz]; exact (Below.refl _ _).alloc (Nat.le_refl _) _))
  rw [hg1]
  have hgg : ¬ g1 = g := by
    intro e
    obtain ⟨i, hB, -⟩ := HS.out
    have h2 := HZ.out
    rw [e] at h2
    have := hB.symm.trans h2
    simp [arr, pkVs] at this
  have HG1 := hide (show v.v.heap.size ≤ g1 from by rw [← hg1]; exact hwz)
  clear hW hz hg1
  have P1 := rrOctet_any v xs A n k g xs V1 hb HS.out
  cases hq1 : qB xs with
  | none =>
    have h0 : O = none := by rw [← HO.out, hq1]; rfl
    refine (RrPost.no P1 hq1).mono ?_
    rintro e w1 ⟨rfl, hv1⟩
    go_wp2_with fail
    all_goals first | exact ⟨rfl, rfl, hv1⟩ | exact ⟨rfl, by rw [h0]; exact ⟨rfl, hv1⟩⟩
  | some z =>
  obtain ⟨first, y1⟩ := z
  have hf := (qB_some hq1).2
  have hxs := (qB_some hq1).1
  simp only at hf hxs
  have hy1 : y1 = xs.drop 1 := by rw [hxs]; rfl
  have hn1 : 1 ≤ n := by have := hb.1; rw [hxs] at this; simp at this; omega
  rw [hq1] at HO
  simp only [Option.bind_some] at HO
  refine (RrPost.ok P1 hq1).mono ?_
  rintro e w1 ⟨rfl, s1, b1⟩
  subst hy1
  have HZ := hide (HZ.out.but b1 (by simpa using hgg))
  have HS := hide s1
  clear s1 b1 P1 hq1 hxs
  go_wp2_with fail
  have P1 := rrLen_any v xs A n k g w1 hb hn1 HS.out
  by_cases hat : (atR xs 1).2.2 = 0
  case neg =>
    have h0 : O = none := by rw [← HO.out, if_pos hat]
    have hq : lenQ xs = none := by unfold lenQ; rw [if_neg hat]
    refine (RrPost.no P1 hq).mono ?_
    rintro e w1 ⟨rfl, hv1⟩
    go_wp2_with fail
    all_goals first | exact ⟨rfl, rfl, hv1⟩ | exact ⟨rfl, by rw [h0]; exact ⟨rfl, hv1⟩⟩
  case pos =>
  have hq : lenQ xs = some ((atR xs 1).1, xs.drop (atR xs 1).2.1) := by unfold lenQ; rw [if_pos hat]
  rw [if_neg (by omega)] at HO
  have P1 := RrPost.ok P1 hq
  generalize (atR xs 1).1 = X at *
  generalize xs.drop (atR xs 1).2.1 = zs at *
  clear hat hq
  refine P1.mono ?_
  rintro e w2 ⟨rfl, s1, b1⟩
  have HZ := hide (HZ.out.but b1 (by simpa using hgg))
  have HS := hide s1
  clear s1 b1 P1
  go_wp2_with fail
  refine (rrLeft_any v xs A n k g zs w2 hb HS.out).mono ?_
  rintro e w3 ⟨rfl, s1, b1⟩
  have HZ := hide (HZ.out.but b1 (by simpa using hgg))
  have HS := hide s1
  clear s1 b1
  by_cases hx : X = zs.length
  case neg =>
    have h0 : O = none := by rw [← HO.out, if_pos hx]
    have q1 : ((X : Int) == (zs.length : Int)) = false := by simp; omega
    have hv1 := HS.out.low
    go_wp2_with fail
    refine (must_no _ _).mono ?_
    rintro e w2 ⟨rfl, rfl⟩
    go_wp2_with fail
    all_goals first | exact ⟨rfl, rfl, hv1⟩ | exact ⟨rfl, by rw [h0]; exact ⟨rfl, hv1⟩⟩
  case pos =>
  rw [if_neg (by omega)] at HO
  have q1 : ((X : Int) == (zs.length : Int)) = true := by simp; omega
  go_wp2_with fail
  refine (must_ok _ _).mono ?_
  rintro e w4 ⟨rfl, rfl⟩
  clear hx q1
  obtain ⟨t, ht⟩ : ∃ t, first / 16 = t := ⟨_, rfl⟩
  obtain ⟨low, hlow⟩ : ∃ low, first % 16 = low := ⟨_, rfl⟩
  have e1 : (first : Int) / 16 = (t : Int) := by omega
  have e2 : (first : Int) % 16 = (low : Int) := by omega
  have hl16 : low < 16 := by omega
  rw [ht, hlow] at HO
  clear ht hlow
  go_upto_region 5 with (refine wpList_storeP rfl 35 (.tmp 5) (.tmp 19) rfl w3.heap.size 35 (zeroP 0) none 0 0 none 0 0 (zeroP t) none 0 0 none 0 0 rfl rfl (Blk.new w3 35 (pkVs (zeroP 0) none 0 0 none 0 0)) (by kernel_rfl) ?_; intro V3 bV BV)
  have bw : Below w3.heap.size w3 V3 := BV w3.heap.size w3 (Nat.le_refl _) ((Below.refl _ _).alloc (Nat.le_refl _) _)
  obtain ⟨gp, hgp⟩ : ∃ gp, w3.heap.size = gp := ⟨_, rfl⟩
  have hgl : g < gp := by rw [← hgp]; exact HS.out.lt
  have hg1l : g1 < gp := by rw [← hgp]; exact HZ.out.lt
  have hvp : v.S gp := v.new gp (by rw [← hgp]; exact HS.out.low.size)
  have HZ := hide (HZ.out.keep bw)
  have HS := hide (HS.out.keep bw)
  rw [hgp] at bV ⊢
  have HP := hide (show PkZ V3 gp (zeroP t) from bV)
  have hVl : gp < V3.heap.size := HP.out.lt
  clear bw BV bV hgp
  have hvg := HS.out.S
  obtain ⟨v2, hv2⟩ : ∃ v2 : Bs, v2 = ⟨V3, fun i => i = g ∨ i = gp ∨ V3.heap.size ≤ i, fun i h => .inr (.inr h)⟩ := ⟨_, rfl⟩
  have hs2 : ∀ i, v2.S i → v.S i := by
    subst hv2
    intro i hi
    rcases hi with rfl | rfl | hi
    · exact hvg
    · exact hvp
    · exact v.new i (Nat.le_trans HS.out.low.size hi)
  have hsg : v2.S g := by subst hv2; exact .inl rfl
  have hsp : v2.S gp := by subst hv2; exact .inr (.inl rfl)
  have hs1 : ¬ v2.S g1 := by
    subst hv2
    rintro (h | h | h)
    · exact hgg h
    · omega
    · have h' : V3.heap.size ≤ g1 := h
      omega
  have hb2 : RrB v2 xs A n k := ⟨hb.1, hb.2.1, hb.2.2.1, by subst hv2; exact hb.rd HS.out.low, fun h0 => (hb.2.2.2.2 h0).mono hs2⟩
  have hS2 : RrS v2 xs A n k g zs V3 := by
    obtain ⟨i, hB, hi, hd, -, -⟩ := HS.out
    exact ⟨i, hB, hi, hd, hsg, by subst hv2; exact But.refl _ _⟩
  have hvv : But v.S v.v v2.v := by subst hv2; exact HS.out.low
  have hz2 : gp < v2.v.heap.size := by subst hv2; exact hVl
  have hz1 : g1 < v2.v.heap.size := by subst hv2; exact HZ.out.lt
  have hZ2 : Blk v2.v g1 35 (pkVs (zeroP 0) none 0 0 none 0 0) := by subst hv2; exact HZ.out
  have PF := hide (rrFields_any t low v2 xs A n k g gp zs V3 hl16 hb2 hS2 HP.out (by omega) hsp)
  have HV := hide hvv
  have HS2 := hide hs2
  have HZ := hide hZ2
  have Hb2 := hide hb2
  have Hs1 := hide hs1
  clear hv2 hvv hs2 hZ2 hb2 hS2 hs1
  go_wp2_with fail
  refine PF.out.mono ?_
  cases hF : fieldsQ t low zs with
  | none =>
    have h0 : O = none := by rw [← HO.out, hF]; rfl
    rintro e w5 ⟨rfl, hv5⟩
    have hv1 : But v.S v.v w5 := HV.out.trans hv5 (fun i _ e => HS2.out i e)
    clear hv5
    go_wp2_with fail
    all_goals first | exact ⟨rfl, rfl, hv1⟩ | exact ⟨rfl, by rw [h0]; exact ⟨rfl, hv1⟩⟩
  | some z =>
  obtain ⟨p, rest⟩ := z
  have hqos := fieldsQ_qos hF
  rw [hF] at HO
  simp only [Option.bind_some] at HO
  rintro e w5 ⟨rfl, s5, C, nc, kc, S, ns, ks, hP5, hC5, hS5, hM5⟩
  have hC : ∀ i, i ≤ gp → Off (fun j => j = i) C := fun i hi b o e h => by have := hC5 b o e; have h' : b = i := h; omega
  have hS : ∀ i, i ≤ gp → Off (fun j => j = i) S := fun i hi b o e h => by have := hS5 b o e; have h' : b = i := h; omega
  have HZ := hide (HZ.out.but s5.low Hs1.out)
  have HS := hide (s5.up HV.out HS2.out)
  have HP := hide hP5
  have HM := hide hM5
  have HC := hide (hC g1 (by omega))
  have HSS := hide (hS g1 (by omega))
  have HN := hide (And.intro (hC5.old HV.out.size) (hS5.old HV.out.size))
  clear PF hF s5 hP5 hM5 hC5 hS5 hC hS
  go_wp2_with fail
  refine (rrLeft_q v xs A n k g rest w5 hb HS.out).mono ?_
  rintro e w6 ⟨rfl, nq, hw6⟩
  have HZ := hide (show Blk w6 g1 35 (pkVs (zeroP 0) none 0 0 none 0 0) from by rw [hw6]; exact HZ.out.drewN nq)
  have HP := hide (show Blk w6 gp 35 (pkVs p C nc kc S ns ks) from by rw [hw6]; exact HP.out.drewN nq)
  have HM := hide (show PkM w6 p C nc kc S ns ks from by rw [hw6]; exact HM.out)
  have hv1 : But v.S v.v w6 := by rw [hw6]; exact HS.out.low.drewN nq
  clear hw6
  obtain ⟨m, hm⟩ : ∃ m, rest.length = m := ⟨_, rfl⟩
  rw [hm]
  by_cases hm0 : m = 0
  case neg =>
    have h0 : O = none := by rw [← HO.out]; unfold endQ; rw [if_neg (fun h => by have := h.1; simp only at this; rw [this] at hm; exact hm0 hm.symm)]
    have q1 : ((m : Int) == 0) = false := by simp; omega
    go_wp2_with fail
    refine (must_no _ _).mono ?_
    rintro e w2 ⟨rfl, rfl⟩
    go_wp2_with fail
    all_goals first | exact ⟨rfl, rfl, hv1⟩ | exact ⟨rfl, by rw [h0]; exact ⟨rfl, hv1⟩⟩
  case pos =>
  subst hm0
  have hr : rest = [] := List.length_eq_zero_iff.1 hm
  subst hr
  have PG := hide (flags_p p C nc kc S ns ks w6 (fun h => (hqos h).1) (fun h => (hqos h).2))
  go_upto_region 8 with (refine wpList_loadPg (by rfl) 35 (.tmp 5) rfl gp 35 p C nc kc S ns ks rfl HP.out Try.underlying35 rfl (by kernel_rfl) ?_)
  refine PG.out.mono ?_
  rintro e w7 ⟨rfl, b7⟩
  have HZ := hide (HZ.out.keep b7)
  have HP := hide (HP.out.keep b7)
  have HM := hide (HM.out.keep b7)
  have hv1 := hv1.on b7
  clear b7 PG
  by_cases hfl : flagsP p = low
  case neg =>
    have h0 : O = none := by rw [← HO.out]; unfold endQ; rw [if_neg (fun h => hfl h.2)]
    have q1 : ((flagsP p : Int) == (low : Int)) = false := by simp; omega
    go_wp2_with fail
    refine (must_no _ _).mono ?_
    rintro e w2 ⟨rfl, rfl⟩
    go_wp2_with fail
    all_goals first | exact ⟨rfl, rfl, hv1⟩ | exact ⟨rfl, by rw [h0]; exact ⟨rfl, hv1⟩⟩
  case pos =>
  have q1 : ((flagsP p : Int) == (low : Int)) = true := by simp; omega
  have h0 : O = some p := by rw [← HO.out]; unfold endQ; rw [if_pos ⟨rfl, hfl⟩]
  have H0 := hide h0
  clear h0
  go_wp2_with fail
  refine (must_ok _ _).mono ?_
  rintro e w8 ⟨rfl, rfl⟩
  go_upto_region 99 with (first
    | (refine wpList_loadP rfl 35 (.tmp 5) rfl gp 35 p C nc kc S ns ks rfl HP.out Try.underlying35 rfl (by kernel_rfl) ?_)
    | (refine wpList_storeQ rfl 35 (.tmp 2) (.tmp 36) rfl g1 35 (zeroP 0) none 0 0 none 0 0 p C nc kc S ns ks rfl rfl HZ.out (by kernel_rfl) ?_; intro V bV BV))
  refine bodyPost_ret (results_cell rfl rfl bV Try.underlying35 rfl (by kernel_rfl)) rfl ?_
  rw [H0.out]
  obtain ⟨m1, m2, m3, m4, m5, m6⟩ := HM.out
  exact ⟨C, nc, kc, S, ns, ks, rfl, HN.out.1, HN.out.2, ⟨m1, m2, m3.but BV HC.out, m4, m5, m6.but BV HSS.out⟩, hv1.trans BV (fun i hi e => by have h1 := hv1.size; exact absurd hi (by rw [e]; have := HG1.out; omega))⟩

end Go.Proofs.Ytkgidimaiedocaa

namespace Go.Proofs.Ytkgidimaiedocaa
set_option linter.unusedVariables false
set_option linter.unusedSimpArgs false
open Go.RowKit

theorem ta_hit (X : TypeId) (w : World) : (Instr.typeAssert (.iface 118 (.int .i64 100)) X 118 true).run Try.prog w = .ok (.tuple #[.int .i64 100, .bool true]) w := by
  simp [Instr.typeAssert, go_sem, Try.underlying118]
theorem ta_nil (X : TypeId) (w : World) : (Instr.typeAssert .nilIface X 118 true).run Try.prog w = .ok (.tuple #[.int .i64 0, .bool false]) w := by
  simp [Instr.typeAssert, go_sem, Try.underlying118]

theorem catch_gave (p : Addr) (x : Int) (older : List PanicEntry) (w : World) (hc : w.cell? p = some (.int .i64 x)) (hz : w.frozen? p = false) :
    CallsD Try.prog 117 #[.pointer (some p)] (.panicking ({ v := .iface 118 (.int .i64 100), recovered := false } :: older)) w fun e u' w' =>
      e = .returned (.tuple #[]) ∧ u' = .panicking ({ v := .iface 118 (.int .i64 100), recovered := true } :: older) ∧ w' = w.setCell p (.int .i64 100) := by
  refine callsD_of_wpS Try.func117 rfl fun c₀ cs hu => ?_
  apply wpS_seq
  apply wpS_region
  simp [wpOpsS, go_sem, recoverD, hu, Try.ntmps117, Exit.thenS, ta_hit]
  apply wpS_seq
  apply wpS_region
  simp [wpOpsS, go_sem, Exit.thenS, Array.replicate]
  refine wpS_cond (t := true) (by simp [Act.eval]) ?_
  simp only [if_true]
  apply wpS_region
  simp [wpOpsS, go_sem, hc, hz, bodyPostS, results, Try.results117]
theorem catch_idle (p : Addr) (w : World) :
    CallsD Try.prog 117 #[.pointer (some p)] .returning w fun e u' w' => e = .returned (.tuple #[]) ∧ u' = .returning ∧ w' = w := by
  refine callsD_of_wpS Try.func117 rfl fun c₀ cs hu => ?_
  apply wpS_seq
  apply wpS_region
  simp [wpOpsS, go_sem, recoverD, hu, Try.ntmps117, Exit.thenS, ta_nil]
  apply wpS_seq
  apply wpS_region
  simp [wpOpsS, go_sem, Exit.thenS, Array.replicate]
  refine wpS_cond (t := false) (by simp [Act.eval]) ?_
  simp only [Bool.false_eq_true, if_false]
  refine wpS_of_wp (wp_skip ?_)
  cases c₀
  simp_all [bodyPostS, results, Try.results117]

/-- Two results that are variables of their own: a packet and a number. -/
theorem results_cells2 {P : Program} {fn : Func} {a b : Tmp} {t u : TypeId} (h : fn.results = #[.cell a t, .cell b u]) {tmps : Array Value} {w : World} {g : Nat} {bt : TypeId} {cs : List Value} {q : Addr} {x : Value} (ha : tmps.getD a undef = .pointer (some ⟨g, 0, none⟩)) (hb : tmps.getD b undef = .pointer (some q)) (hB : Blk w g bt cs)
    {d : TypeDesc} (hu : P.underlying t = some d) (hd : d.isRow = true) (hi : (P.info? t).map (·.size) = some cs.length) (hag : ∀ W, (isAgg u).run P W = .ok false W) (hx : w.cell? q = some x) : (results fn tmps).run P w = .ok (.tuple #[.agg cs.toArray, x]) w := by
  have hl := run_loadVar_mid (P := P) w g 0 t cs d hB.range hu hd hi
  rw [Array.getD_eq_getD_getElem?] at ha hb
  have hl2 : (loadVar u q).run P w = .ok x w := by simp [loadVar, hag, go_sem, hx]
  simp [results, h, ha, hb, asAddr, hl, hl2]

/-- What 'read' returns. -/
def RdPost (o : Option Pk) (w : World) (e : Ending) (w' : World) : Prop := match o with
  | none => e = .returned (.tuple #[pkA (zeroP 0) none 0 0 none 0 0, .int .i64 100]) ∧ Below w.heap.size w w'
  | some p => ∃ C nc kc S ns ks, e = .returned (.tuple #[pkA p C nc kc S ns ks, .int .i64 0]) ∧ NewAt w C ∧ NewAt w S ∧ PkM w' p C nc kc S ns ks ∧ Below w.heap.size w w'

set_option maxRecDepth 100000 in
set_option maxHeartbeats 4000000 in
theorem pkRead_any (A : Option Addr) (n k : Nat) (xs : List UInt8) (w : World) (hR : Rd w A n (bv xs)) (hx : xs.length = n) (hk : n ≤ k) (h65 : n ≤ 65535) : Calls Try.prog 104 #[.slice A n k] w (RdPost (readQ xs) w) := by
  have hmf : ∀ (fn : Fn) (first cap : Array Value) (w : World), (Instr.makeFunc fn first cap).run Try.prog w = .ok (.func fn first cap) w := fun _ _ _ _ => rfl
  go_enter_defers Try.func104, Try.ntmps104
  go_wp2_with fail
  obtain ⟨W, hW⟩ : ∃ W, ((w.alloc (.cells (arr (pkVs (zeroP 0) none 0 0 none 0 0)) 35)).alloc (.cells #[.int .i64 0] 25)).alloc (.cells #[.slice A n k, .int .i64 0] 122) = W := ⟨_, rfl⟩
  have bW : Below w.heap.size w W := by rw [← hW]; exact (((Below.refl _ _).alloc (Nat.le_refl _) _).alloc (by simp) _).alloc (by simp; omega) _
  have zA : Blk W w.heap.size 35 (pkVs (zeroP 0) none 0 0 none 0 0) := by rw [← hW]; exact ((Blk.new w 35 _).al _).al _
  have zB : Blk W (w.heap.size + 1) 25 [.int .i64 0] := by
    rw [← hW]
    have := Blk.new (w.alloc (.cells (arr (pkVs (zeroP 0) none 0 0 none 0 0)) 35)) 25 [.int .i64 0]
    rw [World.size_alloc] at this
    exact this.al _
  have zC : Blk W (w.heap.size + 1 + 1) 122 [.slice A n k, .int .i64 0] := by
    rw [← hW]
    have := Blk.new ((w.alloc (.cells (arr (pkVs (zeroP 0) none 0 0 none 0 0)) 35)).alloc (.cells #[.int .i64 0] 25)) 122 [.slice A n k, .int .i64 0]
    rw [World.size_alloc, World.size_alloc] at this
    exact this
  have hWz : W.heap.size = w.heap.size + 1 + 1 + 1 := by rw [← hW]; simp
  have hw2 : (((w.alloc (.cells #[.int .i64 0, .bool false, .int .i64 0, .string ⟨#[]⟩, .string ⟨#[]⟩, .int .i64 0, .bool false, .string ⟨#[]⟩, .bool false, .int .i64 0, .bool false, .bool false, .bool false, .string ⟨#[]⟩, .string ⟨#[]⟩, .bool false, .slice none 0 0, .slice none 0 0] 35)).alloc (.cells #[.int .i64 0] 25)).alloc (.cells #[.slice A n k, .int .i64 0] 122)) = W := hW
  rw [hw2]
  clear hw2 hW
  obtain ⟨gA, hgA⟩ : ∃ gA, w.heap.size = gA := ⟨_, rfl⟩
  rw [hgA] at zA zB zC hWz bW ⊢
  obtain ⟨gB, hgB⟩ : ∃ gB, gA + 1 = gB := ⟨_, rfl⟩
  rw [hgB] at zB zC hWz ⊢
  obtain ⟨gC, hgC⟩ : ∃ gC, gB + 1 = gC := ⟨_, rfl⟩
  rw [hgC] at zC hWz ⊢
  have nAB : ¬ gA = gB := by omega
  have nAC : ¬ gA = gC := by omega
  have nBC : ¬ gB = gC := by omega
  obtain ⟨v, hv⟩ : ∃ v : Bs, v = ⟨W, fun i => i = gC ∨ W.heap.size ≤ i, fun i h => .inr h⟩ := ⟨_, rfl⟩
  have hb : RrB v xs A n k := ⟨hx, hk, h65, by subst hv; exact hR.keep (by rw [hgA]; exact bW), fun h0 b o e h => by
    obtain ⟨b', o', e', hl, -⟩ := hR.2 h0
    subst hv
    rw [e] at e'
    injection e' with e'
    injection e' with e1
    rcases h with h | h <;> omega⟩
  have hS : RrS v xs A n k gC xs W := ⟨0, zC, by omega, rfl, by subst hv; exact .inl rfl, by subst hv; exact But.refl _ _⟩
  have PK := rrPacket_any v xs A n k gC W hb hS
  have hkeep : ∀ w1, But v.S v.v w1 → Blk w1 gA 35 (pkVs (zeroP 0) none 0 0 none 0 0) ∧ Blk w1 gB 25 [.int .i64 0] ∧ Below gA w w1 := by
    intro w1 h1
    subst hv
    refine ⟨zA.but h1 ?_, zB.but h1 ?_, But.below bW h1 ?_ (by omega)⟩
    · rintro (h | h)
      · exact nAC h
      · omega
    · rintro (h | h)
      · exact nBC h
      · omega
    · rintro i (h | h) <;> omega
  have HK := hide hkeep
  have hAB : gA ≤ gB := by omega
  have hwv : w.heap.size ≤ v.v.heap.size := by subst hv; simp only; omega
  have hAv : gA < v.v.heap.size := by subst hv; exact zA.lt
  have hBv : gB < v.v.heap.size := by subst hv; exact zB.lt
  have HgA := hide hgA
  clear hv hb hS zA zB zC bW hR hkeep hgA hgB hgC nAC nBC hWz
  refine PK.mono ?_
  cases hq : readQ xs with
  | none =>
    rintro e w1 ⟨rfl, hv1⟩
    obtain ⟨zA, zB, b1⟩ := HK.out w1 hv1
    go_wp2_with fail
    refine leaves_cons (f := 117) (args := #[.pointer (some ⟨gB, 0, none⟩)]) (by simp) (by simp [go_sem]) ?_
    refine (catch_gave ⟨gB, 0, none⟩ 0 [] _ (zB.cell 0) (zB.frozen 0)).mono ?_
    rintro e u' w'' ⟨rfl, rfl, rfl⟩
    have hr := results_cells2 (P := Try.prog) (fn := Try.f104) rfl (tmps := #[.slice A n k, undef, .pointer (some ⟨gA, 0, none⟩), .pointer (some ⟨gB, 0, none⟩), .pointer (some ⟨gC, 0, none⟩), .func (.func 117) #[] #[.pointer (some ⟨gB, 0, none⟩)], .slice A n k, .agg #[.slice A n k, .int .i64 0], .pointer (some ⟨gC, 0, none⟩), .pointer (some ⟨gC, 0, none⟩), undef]) rfl rfl (Blk.oth zA (fun e => nAB e.symm) 0 (.int .i64 100)) Try.underlying35 rfl (by kernel_rfl) agg_err ((Blk.set zB 0 (.int .i64 100)).cell 0)
    refine (show ∃ v, (results Try.f104 _).run Try.prog _ = .ok v _ ∧ RdPost none w (.returned v) _ from ⟨_, hr, rfl, ?_⟩)
    rw [HgA.out]
    exact b1.setCell (p := ⟨gB, 0, none⟩) hAB _
  | some p =>
    rintro e w1 ⟨C, nc, kc, S, ns, ks, rfl, hNC, hNS, hM, hv1⟩
    obtain ⟨zA, zB, b1⟩ := HK.out w1 hv1
    have ZA := hide zA
    have ZB := hide zB
    clear zA zB
    go_upto_region 99 with (refine wpList_storeQ rfl 35 (.tmp 2) (.tmp 10) rfl gA 35 (zeroP 0) none 0 0 none 0 0 p C nc kc S ns ks rfl rfl ZA.out (by kernel_rfl) ?_; intro V bV BV; have zB := ZB.out.but BV (fun e => nAB e.symm); have cB := zB.cell 0; have fB := zB.frozen 0; have ZB := hide zB; clear zB)
    refine leaves_cons (f := 117) (args := #[.pointer (some ⟨gB, 0, none⟩)]) (by simp) (by simp [go_sem]) ?_
    refine (catch_idle ⟨gB, 0, none⟩ _).mono ?_
    rintro e u' w'' ⟨rfl, rfl, rfl⟩
    have hr := results_cells2 (P := Try.prog) (fn := Try.f104) rfl (tmps := #[.slice A n k, undef, .pointer (some ⟨gA, 0, none⟩), .pointer (some ⟨gB, 0, none⟩), .pointer (some ⟨gC, 0, none⟩), .func (.func 117) #[] #[.pointer (some ⟨gB, 0, none⟩)], .slice A n k, .agg #[.slice A n k, .int .i64 0], .pointer (some ⟨gC, 0, none⟩), .pointer (some ⟨gC, 0, none⟩), pkA p C nc kc S ns ks]) rfl rfl (Blk.oth bV (fun e => nAB e.symm) 0 (.int .i64 0)) Try.underlying35 rfl (by kernel_rfl) agg_err ((Blk.set ZB.out 0 (.int .i64 0)).cell 0)
    refine (show ∃ v, (results Try.f104 _).run Try.prog _ = .ok v _ ∧ RdPost (readQ xs) w (.returned v) _ from ⟨_, hr, ?_⟩)
    rw [hq]
    obtain ⟨m1, m2, m3, m4, m5, m6⟩ := hM
    have hC : ∀ i, i < v.v.heap.size → Off (fun j => j = i) C := fun i hi b o e h => by have := hNC b o e; have h' : b = i := h; omega
    have hS : ∀ i, i < v.v.heap.size → Off (fun j => j = i) S := fun i hi b o e h => by have := hNS b o e; have h' : b = i := h; omega
    have hBB : But (fun i => i = gB) V (V.setCell ⟨gB, 0, none⟩ (.int .i64 0)) := But.setCell V _ rfl
    refine ⟨C, nc, kc, S, ns, ks, rfl, hNC.old hwv, hNS.old hwv, ⟨m1, m2, (m3.but BV (hC gA hAv)).but hBB (hC gB hBv), m4, m5, (m6.but BV (hS gA hAv)).but hBB (hS gB hBv)⟩, ?_⟩
    rw [HgA.out]
    exact (But.below b1 BV (fun i e => by omega) (by have := b1.size; have := HgA.out; omega)).setCell (p := ⟨gB, 0, none⟩) hAB _

end Go.Proofs.Ytkgidimaiedocaa

namespace Go.Proofs.Ytkgidimaiedocaa
set_option linter.unusedVariables false
set_option linter.unusedSimpArgs false
open Go.RowKit

/-- What Parse returns. -/
def PsPost (o : Option Pk) (w : World) (e : Ending) (w' : World) : Prop := match o with
  | none => e = .returned (.tuple #[pkA (zeroP 0) none 0 0 none 0 0, .int .i64 100]) ∧ Below w.heap.size w w'
  | some p => ∃ C nc kc S ns ks, e = .returned (.tuple #[pkA p C nc kc S ns ks, .int .i64 0]) ∧ NewAt w C ∧ NewAt w S ∧ PkM w' p C nc kc S ns ks ∧ Below w.heap.size w w'

set_option maxRecDepth 100000 in
set_option maxHeartbeats 4000000 in
theorem parse_any (A : Option Addr) (n k : Nat) (xs : List UInt8) (w : World) (hR : Rd w A n (bv xs)) (hx : xs.length = n) (hk : n ≤ k) (h65 : n ≤ 65535) : Calls Try.prog 87 #[.slice A n k] w (PsPost (readP xs) w) := by
  rw [← parseQ_eq]
  obtain ⟨O, hO⟩ : ∃ O, parseQ xs = O := ⟨_, rfl⟩
  rw [hO]
  unfold parseQ at hO
  have HO := hide hO
  have PR := fun W (b : Below w.heap.size w W) => pkRead_any A n k xs W (hR.keep b) hx hk h65
  have HS := hide (fun p (h : readQ xs = some p) => readQ_short (by omega) h)
  clear hO hR hx hk h65
  go_enter Try.func87, Try.ntmps87
  go_wp2_with fail
  generalize hW : w.alloc _ = W
  obtain ⟨gr, hgr, hB, bW, -⟩ := boxedP (p := zeroP 0) (C := none) (nc := 0) (kc := 0) (S := none) (ns := 0) (ks := 0) hW
  rw [hgr]
  have Hg := hide hgr
  have HZ := hide hB
  have BW := hide bW
  have P := PR W (by rw [hgr]; exact bW)
  clear hW hgr hB bW PR
  refine P.mono ?_
  clear P
  cases hq : readQ xs with
  | none =>
    have h0 : O = none := by rw [← HO.out, hq]
    have H0 := hide h0
    clear h0
    rintro e w1 ⟨rfl, b1⟩
    have HZ := hide (HZ.out.keep b1)
    have BW := hide (BW.out.trans (b1.mono (by have := BW.out.size; have := Hg.out; have := HZ.out.lt; omega)))
    clear b1
    go_upto_region 2 with (refine wpList_storeQ rfl 35 (.tmp 4) (.tmp 9) rfl w1.heap.size 35 (zeroP 0) none 0 0 none 0 0 (zeroP 0) none 0 0 none 0 0 rfl rfl (Blk.new w1 35 (pkVs (zeroP 0) none 0 0 none 0 0)) (by kernel_rfl) ?_; intro V bV BV)
    have hz1 : Below w1.heap.size w1 V := But.below ((Below.refl _ _).alloc (Nat.le_refl _) _) BV (fun i e => by omega) (by simp)
    have HZ := hide (HZ.out.keep hz1)
    have BW := hide (BW.out.trans (hz1.mono (by have := BW.out.size; have := Hg.out; omega)))
    clear hz1 bV BV
    go_upto_region 99 with (refine wpList_storeQ rfl 35 (.tmp 2) (.tmp 18) rfl gr 35 (zeroP 0) none 0 0 none 0 0 (zeroP 0) none 0 0 none 0 0 rfl rfl HZ.out (by kernel_rfl) ?_; intro V2 bV2 BV2)
    refine bodyPost_ret (results_cell_tmp rfl rfl bV2 Try.underlying35 rfl (by kernel_rfl)) rfl ?_
    rw [H0.out]
    exact ⟨rfl, by rw [Hg.out]; exact But.below BW.out BV2 (fun i e => by omega) (by have := BW.out.size; have := Hg.out; omega)⟩
  | some p =>
    have hS := HS.out p hq
    have hO : O = if mayP p = true then some p else none := by rw [← HO.out, hq]
    have HO2 := hide hO
    clear hO HO
    rintro e w1 ⟨C, nc, kc, S, ns, ks, rfl, hNC, hNS, hM, b1⟩
    have HC := hide (show Off (fun j => j = gr) C from fun b o e h => by have h1 := hNC b o e; have h2 := HZ.out.lt; have h3 : b = gr := h; omega)
    have HSS := hide (show Off (fun j => j = gr) S from fun b o e h => by have h1 := hNS b o e; have h2 := HZ.out.lt; have h3 : b = gr := h; omega)
    have HN := hide (And.intro (hNC.old (by have := BW.out.size; have := Hg.out; omega)) (hNS.old (by have := BW.out.size; have := Hg.out; omega)) : NewAt w C ∧ NewAt w S)
    have HZ := hide (HZ.out.keep b1)
    have BW := hide (BW.out.trans (b1.mono (by have := BW.out.size; have := Hg.out; have := HZ.out.lt; omega)))
    have HM := hide hM
    have hgl : gr < w1.heap.size := HZ.out.lt
    clear b1 hM hNC hNS
    go_upto_region 2 with (refine wpList_storeQ rfl 35 (.tmp 4) (.tmp 9) rfl w1.heap.size 35 (zeroP 0) none 0 0 none 0 0 p C nc kc S ns ks rfl rfl (Blk.new w1 35 (pkVs (zeroP 0) none 0 0 none 0 0)) (by kernel_rfl) ?_; intro V bV BV)
    have hz1 : Below w1.heap.size w1 V := But.below ((Below.refl _ _).alloc (Nat.le_refl _) _) BV (fun i e => by omega) (by simp)
    have HZ := hide (HZ.out.keep hz1)
    have BW := hide (BW.out.trans (hz1.mono (by have := BW.out.size; have := Hg.out; omega)))
    have hM := HM.out.keep hz1
    have PC := check_any p C nc kc S ns ks V hM hS
    have HM := hide hM
    obtain ⟨gp, hgp⟩ : ∃ gp, w1.heap.size = gp := ⟨_, rfl⟩
    rw [hgp] at bV ⊢
    have HP := hide bV
    have hrp : ¬ gr = gp := by omega
    clear hz1 bV BV hM hgp
    go_upto_region 3 with (refine wpList_loadPg (by rfl) 35 (.tmp 4) rfl gp 35 p C nc kc S ns ks rfl HP.out Try.underlying35 rfl (by kernel_rfl) ?_)
    refine PC.mono ?_
    rintro e w2 ⟨rfl, b2⟩
    have HZ := hide (HZ.out.keep b2)
    have HP := hide (HP.out.keep b2)
    have HM := hide (HM.out.keep b2)
    have BW := hide (BW.out.trans (b2.mono (by have := BW.out.size; have := Hg.out; omega)))
    clear b2 PC
    by_cases hm : mayP p = true
    · rw [if_pos hm]
      have h0 : O = some p := by rw [HO2.out, if_pos hm]
      have H0 := hide h0
      clear h0 hm
      go_upto_region 4 with fail
      refine wp_region_lit ?_
      refine wpList_loadP rfl 35 (.tmp 4) rfl gp 35 p C nc kc S ns ks rfl HP.out Try.underlying35 rfl (by kernel_rfl) ?_
      refine wpList_storeQ rfl 35 (.tmp 2) (.tmp 19) rfl gr 35 (zeroP 0) none 0 0 none 0 0 p C nc kc S ns ks rfl rfl HZ.out (by kernel_rfl) ?_
      intro V2 bV2 BV2
      go_wp2_with fail
      refine bodyPost_ret (results_cell_tmp rfl rfl bV2 Try.underlying35 rfl (by kernel_rfl)) rfl ?_
      rw [H0.out]
      obtain ⟨m1, m2, m3, m4, m5, m6⟩ := HM.out
      exact ⟨C, nc, kc, S, ns, ks, rfl, HN.out.1, HN.out.2, ⟨m1, m2, m3.but BV2 HC.out, m4, m5, m6.but BV2 HSS.out⟩, by rw [Hg.out]; exact But.below BW.out BV2 (fun i e => by omega) (by have := BW.out.size; have := Hg.out; omega)⟩
    · rw [if_neg hm]
      have h0 : O = none := by rw [HO2.out, if_neg hm]
      have H0 := hide h0
      clear h0 hm
      go_upto_region 99 with (refine wpList_storeQ rfl 35 (.tmp 2) (.tmp 18) rfl gr 35 (zeroP 0) none 0 0 none 0 0 (zeroP 0) none 0 0 none 0 0 rfl rfl HZ.out (by kernel_rfl) ?_; intro V2 bV2 BV2)
      refine bodyPost_ret (results_cell_tmp rfl rfl bV2 Try.underlying35 rfl (by kernel_rfl)) rfl ?_
      rw [H0.out]
      exact ⟨rfl, by rw [Hg.out]; exact But.below BW.out BV2 (fun i e => by omega) (by have := BW.out.size; have := Hg.out; omega)⟩

end Go.Proofs.Ytkgidimaiedocaa

namespace Go.Proofs.Ytkgidimaiedocaa
set_option linter.unusedVariables false
set_option linter.unusedSimpArgs false
open Go.RowKit

/-- The blocks of a slice. -/
abbrev SoA (A : Option Addr) : Nat → Prop := fun i => ∃ o, A = some ⟨i, o, none⟩
/-- A row of bytes of the caller's own that came in as A, returned with ys. -/
def RetApp (base : Nat) (A : Option Addr) (N : Nat) (ys : List UInt8) (w : World) (e : Ending) (w' : World) : Prop :=
  ∃ A' c', e = .returned (.slice A' N c') ∧ w'.ownsRow base 5 1 (.slice A' N c') N (bv ys) ∧ But (SoA A) w w' ∧ (A' = A ∨ NewAt w A')
/-- A row that was A0 in w0 and has grown. -/
structure Trk (base : Nat) (w0 : World) (A0 : Option Addr) (A : Option Addr) (c n : Nat) (xs : List UInt8) (w : World) : Prop where
  own : w.ownsRow base 5 1 (.slice A n c) n (bv xs)
  but : But (SoA A0) w0 w
  wh : A = A0 ∨ NewAt w0 A
  base : base ≤ w.heap.size
theorem Trk.start {base : Nat} {w : World} {A : Option Addr} {c n : Nat} {xs : List UInt8} (h : w.ownsRow base 5 1 (.slice A n c) n (bv xs)) (hb : base ≤ w.heap.size) : Trk base w A A c n xs w := ⟨h, But.refl _ _, .inl rfl, hb⟩
theorem Trk.step {base : Nat} {w0 w w' : World} {A0 A A' : Option Addr} {c c' n N : Nat} {xs ys : List UInt8} (h : Trk base w0 A0 A c n xs w) (o : w'.ownsRow base 5 1 (.slice A' N c') N (bv ys)) (b : But (SoA A) w w') (k : A' = A ∨ NewAt w A') : Trk base w0 A0 A' c' N ys w' :=
  ⟨o, h.but.trans b (fun i hi hs => by
    rcases h.wh with e | e
    · rw [← e]; exact hs
    · obtain ⟨o', e'⟩ := hs
      have := e i o' e'
      omega),
   by
    rcases k with k | k
    · rw [k]; exact h.wh
    · exact .inr (k.old h.but.size),
   Nat.le_trans h.base b.size⟩
theorem Trk.keep {base : Nat} {w0 w w' : World} {A0 A : Option Addr} {c n : Nat} {xs : List UInt8} (h : Trk base w0 A0 A c n xs w) (b : Below w.heap.size w w') : Trk base w0 A0 A c n xs w' :=
  ⟨own_keep h.own b, h.but.on b, h.wh, Nat.le_trans h.base b.size⟩
theorem Trk.ret {base : Nat} {w0 w w1 : World} {A0 A : Option Addr} {c n : Nat} {xs : List UInt8} (h : Trk base w1 A0 A c n xs w) (b : Below w0.heap.size w0 w1) : RetApp base A0 n xs w0 (.returned (.slice A n c)) w :=
  ⟨A, c, rfl, h.own, But.after b h.but, by
    rcases h.wh with e | e
    · exact .inl e
    · exact .inr (e.old b.size)⟩
theorem wordI_length (n : Int) : (wordI n).length = 2 := rfl

set_option maxHeartbeats 1000000 in
theorem addWord_any (base : Nat) (A : Option Addr) (n c N : Nat) (xs : List UInt8) (w : World) (d : Int) (h : w.ownsRow base 5 1 (.slice A n c) n (bv xs)) (hN : n + 2 = N) (hl : N ≤ 1099511627776) (hb : base ≤ w.heap.size) (h0 : 0 ≤ d) (h1 : d ≤ 65535) : Calls Try.prog 60 #[.slice A n c, .int .i64 d] w (RetApp base A N (xs ++ wordI d) w) := by
  subst hN
  obtain ⟨k, rfl⟩ : ∃ k : Nat, d = (k : Int) := ⟨d.toNat, by omega⟩
  have P := putI none 0 0 (k : Int) k 2 rfl rfl [] w (Rd.nil _ _) (by omega) (by omega)
  have ew : wordI (k : Int) = word k := by unfold wordI; rw [Int.toNat_natCast]
  rw [ew]
  clear ew
  go_enter Try.func60, Try.ntmps60
  go_wp2_with fail
  refine P.mono ?_
  rintro e w1 ⟨rfl, k1, b1⟩
  have hr : Rd w1 (some ⟨w.heap.size, 0, none⟩) 2 (bv (word k)) := k1.rd
  have ho := own_keep h b1
  have hbw := Nat.le_trans hb b1.size
  clear k1 P
  go_wp2_with (at_builtin; refine wpList_app2 rfl (.tmp 12) (.tmp 13) 28 rfl 5 _ _ Try.underlying28 u8_info rfl base A n c (bv xs) rfl ho (some ⟨w.heap.size, 0, none⟩) 2 2 (bv (word k)) rfl hr (bv_one _) (by unfold maxLen; omega) (by omega) hbw ?_; intro A2 c2 w2 o2 b2 h2; rw [← bv_append] at o2)
  go_ret
  exact ((Trk.start h hb).keep b1 |>.step o2 b2 h2).ret (Below.refl _ _)

set_option maxHeartbeats 1000000 in
theorem addText_any (base : Nat) (A : Option Addr) (n c m N : Nat) (xs s : List UInt8) (w : World) (h : w.ownsRow base 5 1 (.slice A n c) n (bv xs)) (hs : s.length = m) (hN : n + (2 + m) = N) (hl : N ≤ 1099511627776) (hb : base ≤ w.heap.size) (h1 : m ≤ 65535) : Calls Try.prog 82 #[.slice A n c, .string (str s)] w (RetApp base A N (xs ++ textL s) w) := by
  subst hN
  have P := putTextI none 0 0 m (2 + m) (by omega) [] (str s) w (Rd.nil _ _) (by omega) (by rw [str_size]; exact hs) h1
  rw [str_data] at P
  have et : textL s = word m ++ s := by unfold textL; rw [hs]
  rw [et]
  have hlen : (bv ([] ++ (word m ++ s))).length = 2 + m := by rw [bv_length]; simp [word, hs]; omega
  clear et
  go_enter Try.func82, Try.ntmps82
  go_wp2_with fail
  refine P.mono ?_
  rintro e w1 ⟨rfl, k1, b1⟩
  have hr := k1.rd
  rw [hlen, List.nil_append] at hr
  have ho := own_keep h b1
  have hbw := Nat.le_trans hb b1.size
  clear k1 P hlen
  go_wp2_with (at_builtin; refine wpList_app2 rfl (.tmp 12) (.tmp 13) 28 rfl 5 _ _ Try.underlying28 u8_info rfl base A n c (bv xs) rfl ho (some ⟨w.heap.size, 0, none⟩) (2 + m) (2 + m) (bv (word m ++ s)) rfl hr (bv_one _) (by unfold maxLen; omega) (by omega) hbw ?_; intro A2 c2 w2 o2 b2 h2; rw [← bv_append] at o2)
  go_ret
  exact ((Trk.start h hb).keep b1 |>.step o2 b2 h2).ret (Below.refl _ _)

end Go.Proofs.Ytkgidimaiedocaa

namespace Go.Proofs.Ytkgidimaiedocaa
set_option linter.unusedVariables false
set_option linter.unusedSimpArgs false
open Go.RowKit

/-- A row of the caller's own, returned with ys. -/
def RetFin (base : Nat) (N : Nat) (ys : List UInt8) (w : World) (e : Ending) (w' : World) : Prop :=
  ∃ A' c', e = .returned (.slice A' N c') ∧ w'.ownsRow base 5 1 (.slice A' N c') N (bv ys) ∧ Below base w w'
theorem Trk.fin {base : Nat} {w0 w w1 : World} {A0 A : Option Addr} {c n : Nat} {xs : List UInt8} (h : Trk base w1 A0 A c n xs w) (b : Below w0.heap.size w0 w1) (hA : ∀ i, SoA A0 i → base ≤ i) (hb : base ≤ w0.heap.size) : RetFin base n xs w0 (.returned (.slice A n c)) w :=
  ⟨A, c, rfl, h.own, But.below (b.mono hb) h.but hA (Nat.le_trans hb b.size)⟩
theorem u8i : ∃ i, Try.prog.info? 5 = some i ∧ i.zero = some (.int .u8 0) ∧ i.size = 1 ∧ i.bytes = 1 := by
  obtain ⟨i, hi, hz⟩ := Option.map_eq_some_iff.1 u8_info
  simp only [Prod.mk.injEq] at hz
  exact ⟨i, hi, hz.1, hz.2.1, hz.2.2⟩
theorem strCells_bv (xs : List UInt8) : Lib.strCells (str xs) = bv xs := by
  unfold Lib.strCells bv
  rw [str_data]
theorem own_nslice {w : World} {base n : Nat} {xs : List Value} {v : Value} (h : w.ownsRow base 5 1 v n xs) : ∃ A c, v = .slice A n c := by
  rcases h.2 with ⟨rfl, rfl⟩ | ⟨g, cap, cur, rfl, -⟩
  · exact ⟨none, 0, rfl⟩
  · exact ⟨_, _, rfl⟩

set_option maxRecDepth 100000 in
set_option maxHeartbeats 2000000 in
theorem behindPublish_any (base : Nat) (A : Option Addr) (n c N : Nat) (xs : List UInt8) (p : Pk) (C : Option Addr) (nc kc : Nat) (S : Option Addr) (ns ks : Nat) (w : World) (h : w.ownsRow base 5 1 (.slice A n c) n (bv xs)) (hb : base ≤ w.heap.size) (hn : n ≤ 1000000) (h1 : p.topic.length ≤ 65535) (h2 : p.payload.length ≤ 1048576) (h3 : 0 < p.qos → 0 ≤ p.id ∧ p.id ≤ 65535)
    (hN : n + (textL p.topic ++ (if 0 < p.qos then wordI p.id else []) ++ p.payload).length = N) : Calls Try.prog 57 #[.slice A n c, pkA p C nc kc S ns ks] w (RetFin base N (xs ++ (textL p.topic ++ (if 0 < p.qos then wordI p.id else []) ++ p.payload)) w) := by
  have hAl := own_lt h
  have hAb := ownS_new h
  obtain ⟨i0, hi, hz0, hz1, hz2⟩ := u8i
  obtain ⟨Y, hY⟩ : ∃ Y, textL p.topic ++ (if 0 < p.qos then wordI p.id else []) ++ p.payload = Y := ⟨_, rfl⟩
  rw [hY] at hN ⊢
  have HY := hide hY
  clear hY
  obtain ⟨ty, dup, id, topic, payload, qos, retain, client, clean, alive, hasWill, hasUser, hasPass, user, pass, present, codes, subs⟩ := p
  simp only [pkA] at h1 h2 h3 HY ⊢
  obtain ⟨lt, hlt⟩ : ∃ lt, topic.length = lt := ⟨_, rfl⟩
  obtain ⟨lp, hlp⟩ : ∃ lp, payload.length = lp := ⟨_, rfl⟩
  rw [hlt] at h1
  rw [hlp] at h2
  go_enter Try.func57, Try.ntmps57
  go_upto_region 1 with fail
  generalize hW : w.alloc _ = W
  obtain ⟨g, hg, hB, bW, -⟩ := boxedP (p := ⟨ty, dup, id, topic, payload, qos, retain, client, clean, alive, hasWill, hasUser, hasPass, user, pass, present, codes, subs⟩) hW
  have hT := Trk.start (own_keep h (by rw [hg]; exact bW)) (Nat.le_trans hb bW.size)
  have hgA : ¬ SoA A g := fun ⟨o, e⟩ => by have := hAl _ _ e; omega
  have bw : Below w.heap.size w W := by rw [hg]; exact bW
  rw [hg]
  have HB := hide hB
  have c3 := (Blk.p18 hB).2.2.2.1
  clear hW bW hB h
  go_wp2_with fail
  refine (addText_any base A n c lt (n + (2 + lt)) xs topic W hT.own hlt rfl (by omega) hT.base h1).mono ?_
  rintro e w1 ⟨A1, k1, rfl, o1, b1, q1⟩
  have hT := hT.step o1 b1 q1
  have HB1 := HB.out.but hT.but hgA
  have c2 := (Blk.p18 HB1).2.2.1
  have c4 := (Blk.p18 HB1).2.2.2.2.1
  have c5 := (Blk.p18 HB1).2.2.2.2.2.1
  clear o1 b1 q1 c3
  have hsz : (str payload).size = lp := by rw [str_size, hlp]
  by_cases h0 : 0 < qos
  · have q0 : qos > 0 := h0
    go_wp2_with fail
    refine (addWord_any base A1 (n + (2 + lt)) k1 (n + (2 + lt) + 2) (xs ++ textL topic) w1 id hT.own rfl (by omega) hT.base (h3 h0).1 (h3 h0).2).mono ?_
    rintro e w2 ⟨A2, k2, rfl, o2, b2, q2⟩
    have hT := hT.step o2 b2 q2
    have HB2 := HB.out.but hT.but hgA
    have c4 := (Blk.p18 HB2).2.2.2.2.1
    clear o2 b2 q2 c2 c5 HB1 HB2
    go_wp2_with (at_builtin; refine Lib.wpList_append_own_string _ rfl (.tmp 18) (.tmp 21) 28 9 rfl base 5 i0 Try.underlying28 Try.underlying9 hi hz0 hz1 hz2 _ (n + (2 + lt) + 2) _ rfl hT.own (str payload) rfl (by rw [hsz]; unfold maxLen; omega) (by rw [hsz]; omega) hT.base ?_; intro v2 w2 o2 b2 h2; rw [hsz, strCells_bv, ← bv_append] at o2)
    go_ret
    obtain ⟨A2, c2, rfl⟩ := own_nslice o2
    have hNN : N = (n + (2 + lt) + 2) + lp := by rw [← hN, ← HY.out]; simp [textL_len, hlt, hlp, wordI_length, h0]; omega
    have hYY : xs ++ Y = (xs ++ textL topic ++ wordI id) ++ payload := by rw [← HY.out]; simp [h0]
    rw [hNN, hYY]
    have hb2 : Below base _ w2 := (Below.refl base _).grown b2 hT.base (fun k hk => (hT.own.lt k hk).1)
    exact ⟨A2, c2, rfl, o2, (But.below (bw.mono hb) hT.but (fun i ⟨o, e⟩ => hAb i o e) (Nat.le_trans hb bw.size)).trans hb2⟩
  · have q0 : ¬ qos > 0 := h0
    clear HB1
    go_wp2_with (at_builtin; refine Lib.wpList_append_own_string _ rfl (.tmp 18) (.tmp 21) 28 9 rfl base 5 i0 Try.underlying28 Try.underlying9 hi hz0 hz1 hz2 _ (n + (2 + lt)) _ rfl hT.own (str payload) rfl (by rw [hsz]; unfold maxLen; omega) (by rw [hsz]; omega) hT.base ?_; intro v2 w2 o2 b2 h2; rw [hsz, strCells_bv, ← bv_append] at o2)
    go_ret
    obtain ⟨A2, c2, rfl⟩ := own_nslice o2
    have hNN : N = (n + (2 + lt)) + lp := by rw [← hN, ← HY.out]; simp [textL_len, hlt, hlp, wordI_length, (if_neg (show ¬ (0 < qos) by omega) : (if 0 < qos then wordI id else []) = [])]; omega
    have hYY : xs ++ Y = (xs ++ textL topic) ++ payload := by rw [← HY.out]; simp [(if_neg (show ¬ (0 < qos) by omega) : (if 0 < qos then wordI id else []) = [])]
    rw [hNN, hYY]
    have hb2 : Below base _ w2 := (Below.refl base _).grown b2 hT.base (fun k hk => (hT.own.lt k hk).1)
    exact ⟨A2, c2, rfl, o2, (But.below (bw.mono hb) hT.but (fun i ⟨o, e⟩ => hAb i o e) (Nat.le_trans hb bw.size)).trans hb2⟩

set_option maxRecDepth 100000 in
set_option maxHeartbeats 2000000 in
theorem behindCodes_any (base : Nat) (A : Option Addr) (n c N : Nat) (xs : List UInt8) (p : Pk) (C : Option Addr) (nc kc : Nat) (S : Option Addr) (ns ks : Nat) (w : World) (hM : PkM w p C nc kc S ns ks) (h : w.ownsRow base 5 1 (.slice A n c) n (bv xs)) (hb : base ≤ w.heap.size) (hn : n ≤ 1000000) (hCb : 0 < nc → ∀ i, SoA C i → i < base) (h65 : nc ≤ 1048576) (hcs : ∀ z ∈ p.codes, 0 ≤ z ∧ z ≤ 255) (h3 : 0 ≤ p.id ∧ p.id ≤ 65535)
    (hN : n + 2 + nc = N) : Calls Try.prog 59 #[.slice A n c, pkA p C nc kc S ns ks] w (RetFin base N (xs ++ wordI p.id ++ p.codes.map byteI) w) := by
  obtain ⟨m1, -, mR, -, -, -⟩ := hM
  have hAl := own_lt h
  have hAb := ownS_new h
  have HN := hide hN
  obtain ⟨ty, dup, id, topic, payload, qos, retain, client, clean, alive, hasWill, hasUser, hasPass, user, pass, present, codes, subs⟩ := p
  simp only [pkA] at m1 mR hcs h3 ⊢
  go_enter Try.func59, Try.ntmps59
  go_upto_region 1 with fail
  generalize hW : w.alloc _ = W
  obtain ⟨g, hg, hB, bW, -⟩ := boxedP (p := ⟨ty, dup, id, topic, payload, qos, retain, client, clean, alive, hasWill, hasUser, hasPass, user, pass, present, codes, subs⟩) hW
  have hT := Trk.start (own_keep h (by rw [hg]; exact bW)) (Nat.le_trans hb bW.size)
  have hgA : ¬ SoA A g := fun ⟨o, e⟩ => by have := hAl _ _ e; omega
  have bw : Below w.heap.size w W := by rw [hg]; exact bW
  rw [hg]
  have HB := hide hB
  have c2 := (Blk.p18 hB).2.2.1
  have HR := hide (mR.keep bw)
  have HM1 := hide m1
  have Hcs := hide hcs
  have Hbw := hide bw
  clear hW bW hB h hN mR hcs bw
  go_wp2_with fail
  refine (addWord_any base A n c (n + 2) xs W id hT.own rfl (by omega) hT.base h3.1 h3.2).mono ?_
  rintro e w1 ⟨A1, k1, rfl, o1, b1, q1⟩
  have hT := hT.step o1 b1 q1
  have HB1 := HB.out.but hT.but hgA
  have c16 := (Blk.p18 HB1).2.2.2.2.2.2.2.2.2.2.2.2.2.2.2.2.1
  clear o1 b1 q1 c2
  have HT := hide hT
  clear hT HB1
  go_wp2_with fail
  go_loopw [0, 14] (fun v i wr => ∃ (k : Nat) (A2 : Option Addr) (c2 : Nat), i = .int .i64 (k : Int) ∧ k ≤ nc ∧ v = .slice A2 (n + 2 + k) c2 ∧ Trk base W A A2 c2 (n + 2 + k) (xs ++ wordI id ++ (codes.take k).map byteI) wr) (fun _ i _ => nc - (intOf i).toNat)
  case atStart => exact ⟨0, A1, k1, rfl, by omega, rfl, by simpa using HT.out⟩
  case round =>
    obtain ⟨k, A2, c2, rfl, hk, rfl, hT⟩ := hrel
    by_cases hlt : k < nc
    · have q1 : (k : Int) < (nc : Int) := by omega
      have hlt' : k < codes.length := by rw [HM1.out]; exact hlt
      obtain ⟨b, o, rfl, hbl, hcell⟩ := HR.out.at_ hlt
      have hbA : ¬ SoA A b := fun ⟨o', e'⟩ => by have h1 := hCb (by omega) b ⟨o, rfl⟩; have h2 := hAb _ _ e'; omega
      have cA : wr.cell? ⟨b, o + k, none⟩ = some (.int .i64 codes[k]) := (World.cell?_of_block (w := W) (hT.but.block b hbl hbA)).trans (hcell k _ (iv_get codes k hlt'))
      have htk : codes.take (k + 1) = codes.take k ++ [codes[k]] := (List.take_append_getElem hlt').symm
      have hz := Hcs.out codes[k] (List.getElem_mem hlt')
      generalize codes[k] = z at *
      obtain ⟨z, rfl⟩ : ∃ y : Nat, z = (y : Int) := ⟨z.toNat, by omega⟩
      have Htk := hide htk
      have wz : IntKind.u8.wrap (z : Int) = (z : Int) := by rw [IntKind.wrap_u8]; omega
      have hbz : bv [byteI (z : Int)] = [.int .u8 (z : Int)] := by rw [bv_cons]; unfold byteI; rw [Int.toNat_natCast, u8cell (by omega)]; rfl
      have HT := hide hT
      have hTb := hT.base
      clear hcell hlt' htk hbl hbA hT
      go_wp2_with (at_builtin; refine wpList_app2 rfl (.tmp 18) (.tmp 21) 28 rfl 5 _ _ Try.underlying28 u8_info rfl base A2 (n + 2 + k) c2 _ rfl (own_keep HT.out.own ((Below.refl _ _).alloc (Nat.le_refl _) _)) (some ⟨wr.heap.size, 0, none⟩) 1 1 [.int .u8 (z : Int)] rfl (rd_one wr 5 _) (by intro u hu; simp at hu; subst hu; rfl) (by unfold maxLen; omega) (by omega) (Nat.le_trans hTb (by simp)) ?_; intro A3 c3 w3 o3 b3 h3')
      have hT3 : Trk base W A A3 c3 (n + 2 + k + 1) (xs ++ wordI id ++ (codes.take (k + 1)).map byteI) w3 := by
        refine (HT.out.keep ((Below.refl _ _).alloc (Nat.le_refl _) _)).step ?_ b3 h3'
        rw [Htk.out, List.map_append, ← List.append_assoc, bv_append]
        rw [← hbz] at o3
        exact o3
      exact ⟨⟨k + 1, A3, c3, by go_num, by omega, rfl, hT3⟩, by simp [intOf]; omega⟩
    · obtain rfl : k = nc := by omega
      have q1 : ¬ (k : Int) < (k : Int) := by omega
      have HT := hide hT
      clear hT
      have hfull : codes.take k = codes := List.take_of_length_le (by rw [HM1.out]; exact Nat.le_refl _)
      go_wp2_with fail
      go_ret
      have hT := HT.out
      rw [hfull] at hT
      have := hT.fin Hbw.out (fun i ⟨o, e⟩ => hAb i o e) hb
      rw [HN.out, List.append_assoc] at this
      rw [← List.append_assoc]
      rw [← List.append_assoc] at this
      have hn2 : n + 2 + k = N := HN.out
      subst hn2
      exact this

end Go.Proofs.Ytkgidimaiedocaa

namespace Go.Proofs.Ytkgidimaiedocaa
set_option linter.unusedVariables false
set_option linter.unusedSimpArgs false
open Go.RowKit

theorem subL_len (t : Int) (s : List UInt8 × Int) (h : s.1.length ≤ 65535) : (subL t s).length ≤ 65538 := by
  unfold subL
  rw [List.length_append, textL_len]
  split <;> simp <;> omega
theorem flat_len (t : Int) : ∀ (l : List (List UInt8 × Int)), (∀ s ∈ l, s.1.length ≤ 65535) → (l.flatMap (subL t)).length ≤ l.length * 65538
  | [], _ => by simp
  | s :: l, h => by
    have h1 := subL_len t s (h s (by simp))
    have h2 := flat_len t l (fun t ht => h t (by simp [ht]))
    rw [List.flatMap_cons, List.length_append, List.length_cons]
    omega

set_option maxRecDepth 100000 in
set_option maxHeartbeats 4000000 in
theorem behindNames_any (base : Nat) (A : Option Addr) (n c N : Nat) (xs : List UInt8) (p : Pk) (C : Option Addr) (nc kc : Nat) (S : Option Addr) (ns ks : Nat) (w : World) (hM : PkM w p C nc kc S ns ks) (h : w.ownsRow base 5 1 (.slice A n c) n (bv xs)) (hb : base ≤ w.heap.size) (hn : n ≤ 1000000) (hSb : 0 < ns → ∀ i, SoA S i → i < base) (h65 : ns ≤ 1048576) (hss : ∀ s ∈ p.subs, s.1.length ≤ 65535) (hqs : ∀ s ∈ p.subs, 0 ≤ s.2 ∧ s.2 ≤ 255) (h3 : 0 ≤ p.id ∧ p.id ≤ 65535)
    (hN : n + 2 + (p.subs.flatMap (subL p.ty)).length = N) : Calls Try.prog 58 #[.slice A n c, pkA p C nc kc S ns ks] w (RetFin base N (xs ++ wordI p.id ++ p.subs.flatMap (subL p.ty)) w) := by
  obtain ⟨-, -, -, m1, -, mR⟩ := hM
  have hAl := own_lt h
  have hAb := ownS_new h
  have HN := hide hN
  obtain ⟨ty, dup, id, topic, payload, qos, retain, client, clean, alive, hasWill, hasUser, hasPass, user, pass, present, codes, subs⟩ := p
  simp only [pkA] at m1 mR hss hqs h3 HN ⊢
  go_enter Try.func58, Try.ntmps58
  go_upto_region 1 with fail
  generalize hW : w.alloc _ = W
  obtain ⟨g, hg, hB, bW, -⟩ := boxedP (p := ⟨ty, dup, id, topic, payload, qos, retain, client, clean, alive, hasWill, hasUser, hasPass, user, pass, present, codes, subs⟩) hW
  have hT := Trk.start (own_keep h (by rw [hg]; exact bW)) (Nat.le_trans hb bW.size)
  have hgA : ¬ SoA A g := fun ⟨o, e⟩ => by have := hAl _ _ e; omega
  have bw : Below w.heap.size w W := by rw [hg]; exact bW
  rw [hg]
  have HB := hide hB
  have c2 := (Blk.p18 hB).2.2.1
  have HR := hide (mR.keep bw)
  have HM1 := hide m1
  have Hss := hide hss
  have Hqs := hide hqs
  have Hbw := hide bw
  clear hW bW hB h hN mR hss hqs bw
  go_wp2_with fail
  refine (addWord_any base A n c (n + 2) xs W id hT.own rfl (by omega) hT.base h3.1 h3.2).mono ?_
  rintro e w1 ⟨A1, k1, rfl, o1, b1, q1⟩
  have hT := hT.step o1 b1 q1
  have HB1 := HB.out.but hT.but hgA
  have c17 := (Blk.p18 HB1).2.2.2.2.2.2.2.2.2.2.2.2.2.2.2.2.2
  clear o1 b1 q1 c2
  have HT := hide hT
  clear hT HB1
  go_wp2_with fail
  clear c17
  go_loopw [0, 14] (fun v i wr => ∃ (k : Nat) (A2 : Option Addr) (c2 m : Nat), i = .int .i64 (k : Int) ∧ k ≤ ns ∧ m = n + 2 + ((subs.take k).flatMap (subL ty)).length ∧ v = .slice A2 m c2 ∧ Trk base W A A2 c2 m (xs ++ wordI id ++ (subs.take k).flatMap (subL ty)) wr) (fun _ i _ => ns - (intOf i).toNat)
  case atStart => exact ⟨0, A1, k1, n + 2, rfl, by omega, by simp, rfl, by simpa using HT.out⟩
  case round =>
    obtain ⟨k, A2, c2, m, rfl, hk, hm, rfl, hT⟩ := hrel
    by_cases hlt : k < ns
    · have q1 : (k : Int) < (ns : Int) := by omega
      have hlt' : k < subs.length := by rw [HM1.out]; exact hlt
      obtain ⟨b, o, rfl, hbl, hcell⟩ := HR.out.at_ (k := k * 2) (by omega)
      obtain ⟨g0, g1⟩ := subVs_get subs k hlt'
      have hbA : ¬ SoA A b := fun ⟨o', e'⟩ => by have h1 := hSb (by omega) b ⟨o, rfl⟩; have h2 := hAb _ _ e'; omega
      have cA : wr.cell? ⟨b, o + k * 2, none⟩ = some (.string (str subs[k].1)) := (World.cell?_of_block (w := W) (hT.but.block b hbl hbA)).trans (hcell _ _ g0)
      have cB : wr.cell? ⟨b, o + k * 2 + 1, none⟩ = some (.int .i64 subs[k].2) := (World.cell?_of_block (w := W) (hT.but.block b hbl hbA)).trans (hcell _ _ g1)
      have htk : subs.take (k + 1) = subs.take k ++ [subs[k]] := (List.take_append_getElem hlt').symm
      have hz := Hqs.out subs[k] (List.getElem_mem hlt')
      have hl := Hss.out subs[k] (List.getElem_mem hlt')
      have hfl := flat_len ty (subs.take k) (fun s hs => Hss.out s (List.mem_of_mem_take hs))
      have hlk : (subs.take k).length = k := by rw [List.length_take]; omega
      rw [hlk] at hfl
      generalize subs[k] = s at *
      obtain ⟨f, z⟩ := s
      simp only at cA cB hz hl
      have Htk := hide htk
      generalize hFk : (subs.take k).flatMap (subL ty) = Fk at *
      obtain ⟨z, rfl⟩ : ∃ y : Nat, z = (y : Int) := ⟨z.toNat, by omega⟩
      have hF2 : (subs.take (k + 1)).flatMap (subL ty) = Fk ++ subL ty (f, (z : Int)) := by rw [Htk.out, List.flatMap_append, hFk]; simp
      have wz : IntKind.u8.wrap (z : Int) = (z : Int) := by rw [IntKind.wrap_u8]; omega
      have hbz : bv [byteI (z : Int)] = [.int .u8 (z : Int)] := by rw [bv_cons]; unfold byteI; rw [Int.toNat_natCast, u8cell (by omega)]; rfl
      have hml : m ≤ 70000000000 := by omega
      have HF2 := hide hF2
      have HFl := hide (show m = n + 2 + Fk.length from hm)
      have hT := hT
      have hTb := hT.base
      obtain ⟨lf, hlf⟩ : ∃ lf, f.length = lf := ⟨_, rfl⟩
      rw [hlf] at hl
      have Hlf := hide hlf
      have HT := hide hT
      clear hcell hlt' htk hbl hbA hT hfl hlk hF2 hFk hm g0 g1 hlf
      go_wp2_with fail
      generalize hV : wr.alloc _ = V
      have bV : Below wr.heap.size wr V := by rw [← hV]; exact (Below.refl _ _).alloc (Nat.le_refl _) _
      have zV : Blk V wr.heap.size 79 [.string (str f), .int .i64 (z : Int)] := by rw [← hV]; exact Blk.new wr 79 _
      have hT := HT.out.keep bV
      have hgs : ¬ SoA A2 wr.heap.size := fun ⟨o', e'⟩ => by have := own_lt HT.out.own _ _ e'; omega
      have hggs : g < wr.heap.size := by have := (HB.out.but HT.out.but hgA).lt; exact this
      obtain ⟨gs, hgs2⟩ : ∃ gs, wr.heap.size = gs := ⟨_, rfl⟩
      rw [hgs2] at zV hgs hggs ⊢
      clear hV bV hgs2 cA cB
      refine (addText_any base A2 m c2 lf (m + (2 + lf)) (xs ++ wordI id ++ Fk) f V hT.own Hlf.out rfl (by omega) hT.base hl).mono ?_
      rintro e w3 ⟨A3, k3, rfl, o3, b3, q3⟩
      have zV3 := zV.but b3 hgs
      have hT := hT.step o3 b3 q3
      have HB3 := HB.out.but hT.but hgA
      have c0 := (Blk.p18 HB3).1
      have z1 := zV3.cell 1
      simp only [List.getElem?_cons_zero, List.getElem?_cons_succ] at z1
      have hTb3 := hT.base
      have HT := hide hT
      clear o3 b3 q3 zV zV3 HB3 hT
      by_cases h8 : ty = 8
      · have hs8 : subL ty (f, (z : Int)) = textL f ++ [byteI (z : Int)] := by unfold subL; rw [if_pos h8]
        have qt : (ty == 8) = true := by simp [h8]
        clear h8
        go_wp2_with (at_builtin; refine wpList_app2 rfl (.tmp 25) (.tmp 29) 28 rfl 5 _ _ Try.underlying28 u8_info rfl base A3 (m + (2 + lf)) k3 _ rfl (own_keep HT.out.own ((Below.refl _ _).alloc (Nat.le_refl _) _)) (some ⟨w3.heap.size, 0, none⟩) 1 1 [.int .u8 (z : Int)] rfl (rd_one w3 5 _) (by intro u hu; simp at hu; subst hu; rfl) (by unfold maxLen; omega) (by omega) (Nat.le_trans hTb3 (by simp)) ?_; intro A4 c4 w4 o4 b4 h4')
        have hT4 : Trk base W A A4 c4 (m + (2 + lf) + 1) (xs ++ wordI id ++ (subs.take (k + 1)).flatMap (subL ty)) w4 := by
          refine (HT.out.keep ((Below.refl _ _).alloc (Nat.le_refl _) _)).step ?_ b4 h4'
          rw [HF2.out, hs8]
          rw [← hbz, ← bv_append] at o4
          simp only [List.append_assoc] at o4 ⊢
          exact o4
        exact ⟨⟨k + 1, A4, c4, m + (2 + lf) + 1, by go_num, by omega, by rw [HF2.out, hs8, HFl.out]; simp [textL_len, Hlf.out]; omega, rfl, hT4⟩, by simp [intOf]; omega⟩
      · have hs8 : subL ty (f, (z : Int)) = textL f := by unfold subL; rw [if_neg h8]; simp
        have qt : (ty == 8) = false := by simp [h8]
        clear h8
        go_wp2_with fail
        have hT4 : Trk base W A A3 k3 (m + (2 + lf)) (xs ++ wordI id ++ (subs.take (k + 1)).flatMap (subL ty)) w3 := by
          rw [HF2.out, hs8]
          have := HT.out
          simp only [List.append_assoc] at this ⊢
          exact this
        exact ⟨⟨k + 1, A3, k3, m + (2 + lf), by go_num, by omega, by rw [HF2.out, hs8, HFl.out]; simp [textL_len, Hlf.out]; omega, rfl, hT4⟩, by simp [intOf]; omega⟩
    · obtain rfl : k = ns := by omega
      have q1 : ¬ (k : Int) < (k : Int) := by omega
      have hfull : subs.take k = subs := List.take_of_length_le (by rw [HM1.out]; exact Nat.le_refl _)
      rw [hfull] at hm hT
      have hmN : m = N := by rw [hm]; exact HN.out
      have hF := hT.fin Hbw.out (fun i ⟨o, e⟩ => hAb i o e) hb
      have HF := hide hF
      subst hmN
      clear hT hF hm hfull
      go_wp2_with fail
      go_ret
      have := HF.out
      simp only [List.append_assoc] at this ⊢
      exact this

end Go.Proofs.Ytkgidimaiedocaa

namespace Go.Proofs.Ytkgidimaiedocaa
set_option linter.unusedVariables false
set_option linter.unusedSimpArgs false
open Go.RowKit

theorem conBody_texts (p : Pk) : conBody p = mqtt ++ [4, UInt8.ofNat (conFlags p)] ++ wordI p.alive ++ (textsP p).flatMap textL := by
  unfold conBody textsP
  cases p.hasWill <;> cases p.hasUser <;> cases p.hasPass <;> simp
theorem texts_flen : ∀ (l : List (List UInt8)), (∀ s ∈ l, s.length ≤ 65535) → (l.flatMap textL).length ≤ l.length * 65537
  | [], _ => by simp
  | s :: l, h => by
    have h1 := h s (by simp)
    have h2 := texts_flen l (fun t ht => h t (by simp [ht]))
    rw [List.flatMap_cons, List.length_append, List.length_cons, textL_len]
    omega
theorem conFlags_lt (p : Pk) (h0 : 0 ≤ p.qos) (h2 : p.qos ≤ 2) : conFlags p < 256 := by
  unfold conFlags
  have h1 : ∀ b n, flagB b n ≤ n := fun b n => by unfold flagB; split <;> omega
  have := h1 p.clean 2
  have := h1 p.hasWill 4
  have := h1 p.retain 32
  have := h1 p.hasPass 64
  have := h1 p.hasUser 128
  omega

set_option maxRecDepth 100000 in
set_option maxHeartbeats 4000000 in
theorem behindConnect_any (base : Nat) (A : Option Addr) (n c N : Nat) (xs : List UInt8) (p : Pk) (C : Option Addr) (nc kc : Nat) (S : Option Addr) (ns ks : Nat) (w : World) (hTs0 : ∀ s ∈ textsP p, s.length ≤ 65535) (h : w.ownsRow base 5 1 (.slice A n c) n (bv xs)) (hb : base ≤ w.heap.size) (hn : n ≤ 1000000) (hq0 : 0 ≤ p.qos) (hq2 : p.qos ≤ 2) (h3 : 0 ≤ p.alive ∧ p.alive ≤ 65535)
    (hN : n + (conBody p).length = N) : Calls Try.prog 56 #[.slice A n c, pkA p C nc kc S ns ks] w (RetFin base N (xs ++ conBody p) w) := by
  have hAl := own_lt h
  have hAb := ownS_new h
  have hcb := conBody_texts p
  have PT := texts_any p C nc kc S ns ks
  have PM := fun W => marks_any p C nc kc S ns ks W hq0 (by omega)
  have hT5 := textsP_len p
  have HTs := hide hTs0
  have hfl := conFlags_lt p hq0 hq2
  clear hTs0
  generalize textsP p = T at *
  generalize conFlags p = F at *
  generalize conBody p = B at *
  have HCB := hide hcb
  clear hcb
  obtain ⟨q, hq⟩ : ∃ q, p = q := ⟨_, rfl⟩
  rw [hq] at PT PM
  have Hq := hide hq
  clear hq0 hq2
  obtain ⟨ty, dup, id, topic, payload, qos, retain, client, clean, alive, hasWill, hasUser, hasPass, user, pass, present, codes, subs⟩ := p
  clear hq
  simp only [pkA] at h3 hN ⊢
  obtain ⟨LT, hLT⟩ : ∃ LT, T.length = LT := ⟨_, rfl⟩
  rw [hLT] at hT5
  have HLT := hide hLT
  have HN := hide hN
  clear hN hLT
  go_enter Try.func56, Try.ntmps56
  go_upto_region 1 with fail
  generalize hW : w.alloc _ = W
  obtain ⟨g, hg, hB, bW, -⟩ := boxedP (p := ⟨ty, dup, id, topic, payload, qos, retain, client, clean, alive, hasWill, hasUser, hasPass, user, pass, present, codes, subs⟩) hW
  have hT := Trk.start (own_keep h (by rw [hg]; exact bW)) (Nat.le_trans hb bW.size)
  have hgA : ¬ SoA A g := fun ⟨o, e⟩ => by have := hAl _ _ e; omega
  have bw : Below w.heap.size w W := by rw [hg]; exact bW
  rw [hg]
  have HB := hide (show Blk W g 35 (pkVs q C nc kc S ns ks) from by rw [← Hq.out]; exact hB)
  have hqa : q.alive = alive := by rw [← Hq.out]
  have Hbw := hide bw
  clear hW bW hB h bw
  go_wp2_with fail
  refine (show Calls Try.prog 82 #[.slice A n c, .string ⟨#[77, 81, 84, 84]⟩] W (RetApp base A (n + 6) (xs ++ mqtt) W) from addText_any base A n c 4 (n + 6) xs [77, 81, 84, 84] W hT.own rfl rfl (by omega) hT.base (by omega)).mono ?_
  rintro e w1 ⟨A1, k1, rfl, o1, b1, q1⟩
  have hT := hT.step o1 b1 q1
  have HB1 := hide (HB.out.but hT.but hgA)
  clear o1 b1 q1
  have HT := hide hT
  clear hT
  go_upto_region 3 with (refine wpList_loadP rfl 35 (.tmp 3) rfl g 35 q C nc kc S ns ks rfl HB1.out Try.underlying35 rfl (by kernel_rfl) ?_)
  refine (PM w1).mono ?_
  rintro e w2 ⟨rfl, b2⟩
  have hT := HT.out.keep b2
  have HB2 := hide (HB.out.but hT.but hgA)
  have hTb := hT.base
  have HT := hide hT
  have wF : IntKind.u8.wrap (F : Int) = (F : Int) := by rw [IntKind.wrap_u8]; omega
  have hbz : bv [4, UInt8.ofNat F] = [.int .u8 4, .int .u8 (F : Int)] := by rw [bv_cons, bv_cons, u8cell hfl]; rfl
  have c9 := (Blk.p18 HB2.out).2.2.2.2.2.2.2.2.2.1
  rw [hqa] at c9
  clear hT b2 PM HB1
  clear c9
  go_upto_region 3 with (at_builtin; refine wpList_app2 rfl (.tmp 9) (.tmp 13) 28 rfl 5 _ _ Try.underlying28 u8_info rfl base A1 (n + 6) k1 _ rfl (own_keep HT.out.own ((Below.refl _ _).alloc (Nat.le_refl _) _)) (some ⟨w2.heap.size, 0, none⟩) 2 2 [.int .u8 4, .int .u8 (F : Int)] rfl (Blk.new w2 5 [.int .u8 4, .int .u8 (F : Int)]).rd (by intro u hu; simp at hu; rcases hu with rfl | rfl <;> rfl) (by unfold maxLen; omega) (by omega) (Nat.le_trans hTb (by simp)) ?_; intro A2 c2 w3 o3 b3 h3')
  have hT : Trk base W A A2 c2 (n + 6 + 2) (xs ++ mqtt ++ [4, UInt8.ofNat F]) w3 := by
    refine (HT.out.keep ((Below.refl _ _).alloc (Nat.le_refl _) _)).step ?_ b3 h3'
    rw [← hbz, ← bv_append] at o3
    exact o3
  have HB3 := HB.out.but hT.but hgA
  have c9 := (Blk.p18 HB3).2.2.2.2.2.2.2.2.2.1
  rw [hqa] at c9
  clear o3 b3 h3' HB2 HB3 HT
  go_wp2_with fail
  refine (addWord_any base A2 (n + 6 + 2) c2 (n + 6 + 2 + 2) (xs ++ mqtt ++ [4, UInt8.ofNat F]) w3 alive hT.own rfl (by omega) hT.base h3.1 h3.2).mono ?_
  rintro e w4 ⟨A3, c3, rfl, o4, b4, q4⟩
  have hT := hT.step o4 b4 q4
  have HB4 := hide (HB.out.but hT.but hgA)
  clear o4 b4 q4 c9
  have HT := hide hT
  clear hT
  have P := PT w4
  unfold RetTx at P
  rw [HLT.out] at P
  clear PT
  go_upto_region 5 with (refine wpList_loadP rfl 35 (.tmp 3) rfl g 35 q C nc kc S ns ks rfl HB4.out Try.underlying35 rfl (by kernel_rfl) ?_)
  refine P.mono ?_
  rintro e w5 ⟨R, kr, rfl, hRn, hR, b5⟩
  have hRA : Off (SoA A3) R := fun b o e ⟨o', e'⟩ => by have h1 := hRn b o e; have h2 := own_lt HT.out.own b o' e'; omega
  have hT := HT.out.keep b5
  have HR := hide hR
  have HT := hide hT
  have h5b := hT.base
  have hS5 := hide (Trk.start hT.own hT.base)
  clear P hR b5 hT hRn
  go_wp2_with fail
  go_loopw [0, 22] (fun v i wr => ∃ (k : Nat) (A4 : Option Addr) (c4 m : Nat), i = .int .i64 (k : Int) ∧ k ≤ LT ∧ m = n + 10 + ((T.take k).flatMap textL).length ∧ v = .slice A4 m c4 ∧ Trk base w5 A3 A4 c4 m (xs ++ mqtt ++ [4, UInt8.ofNat F] ++ wordI alive ++ (T.take k).flatMap textL) wr) (fun _ i _ => LT - (intOf i).toNat)
  case atStart => exact ⟨0, A3, c3, n + 10, rfl, by omega, by simp, rfl, by simpa using hS5.out⟩
  case round =>
    obtain ⟨k, A4, c4, m, rfl, hk, hm, rfl, hT⟩ := hrel
    by_cases hlt : k < LT
    · have q1 : (k : Int) < (LT : Int) := by omega
      have hlt' : k < T.length := by rw [HLT.out]; exact hlt
      obtain ⟨b, o, eR, hbl, hcell⟩ := (HR.out.but hT.but hRA).at_ (k := k) hlt
      subst eR
      have cA : wr.cell? ⟨b, o + k, none⟩ = some (.string (str T[k])) := hcell k _ (tv_get T k hlt')
      have htk : T.take (k + 1) = T.take k ++ [T[k]] := (List.take_append_getElem hlt').symm
      have hl := HTs.out T[k] (List.getElem_mem hlt')
      have hfl := texts_flen (T.take k) (fun s hs => HTs.out s (List.mem_of_mem_take hs))
      have hlk : (T.take k).length = k := by rw [List.length_take]; omega
      rw [hlk] at hfl
      generalize T[k] = f at *
      have Htk := hide htk
      generalize hFk : (T.take k).flatMap textL = Fk at *
      have HF2 := hide (show (T.take (k + 1)).flatMap textL = Fk ++ textL f by rw [Htk.out, List.flatMap_append, hFk]; simp)
      have HFl := hide (show m = n + 10 + Fk.length from hm)
      have hml : m ≤ 5000000 := by omega
      obtain ⟨lf, hlf⟩ : ∃ lf, f.length = lf := ⟨_, rfl⟩
      rw [hlf] at hl
      have Hlf := hide hlf
      have HT := hide hT
      clear hcell hlt' htk hbl hfl hlk hFk hm hlf hT
      go_wp2_with fail
      refine (addText_any base A4 m c4 lf (m + (2 + lf)) (xs ++ mqtt ++ [4, UInt8.ofNat F] ++ wordI alive ++ Fk) f wr HT.out.own Hlf.out rfl (by omega) HT.out.base hl).mono ?_
      rintro e w6 ⟨A6, c6, rfl, o6, b6, q6⟩
      have hT6 : Trk base w5 A3 A6 c6 (m + (2 + lf)) (xs ++ mqtt ++ [4, UInt8.ofNat F] ++ wordI alive ++ (T.take (k + 1)).flatMap textL) w6 := by
        have := HT.out.step o6 b6 q6
        rw [HF2.out]
        simp only [List.append_assoc] at this ⊢
        exact this
      have HT6 := hide hT6
      clear hT6 o6 b6 q6
      go_wp2_with fail
      exact ⟨⟨k + 1, A6, c6, m + (2 + lf), by go_num, by omega, by rw [HF2.out, HFl.out, List.length_append, textL_len, Hlf.out]; omega, rfl, HT6.out⟩, by simp [intOf]; omega⟩
    · obtain rfl : k = LT := by omega
      have q1 : ¬ (k : Int) < (k : Int) := by omega
      have hfull : T.take k = T := List.take_of_length_le (by rw [HLT.out]; exact Nat.le_refl _)
      rw [hfull] at hm hT
      have hF := (HT.out.step hT.own hT.but hT.wh).fin Hbw.out (fun i ⟨o, e⟩ => hAb i o e) hb
      have hmN : m = N := by rw [hm, ← HN.out, HCB.out]; simp [mqtt, wordI_length]; omega
      have hBB : xs ++ mqtt ++ [4, UInt8.ofNat F] ++ wordI alive ++ T.flatMap textL = xs ++ B := by rw [HCB.out]; simp
      rw [hmN, hBB] at hF
      have HF := hide hF
      subst hmN
      clear hT hF hm hfull hBB
      go_wp2_with fail
      go_ret
      exact HF.out

end Go.Proofs.Ytkgidimaiedocaa

namespace Go.Proofs.Ytkgidimaiedocaa
set_option linter.unusedVariables false
set_option linter.unusedSimpArgs false
open Go.RowKit

theorem fit_ok {p : Pk} (h : fitB p = true) : okP p = true := by
  simp only [fitB, Bool.and_eq_true] at h
  exact h.2
theorem fit_used {p : Pk} (h : fitB p = true) : p = usedP p := by
  simp only [fitB, Bool.and_eq_true, decide_eq_true_eq] at h
  exact h.1.2
theorem fit_q1 {p : Pk} (h : fitB p = true) (h1 : p.ty = 1) : (0 ≤ p.qos ∧ p.qos ≤ 2) ∧ 0 ≤ p.alive ∧ p.alive ≤ 65535 := by
  have ho := fit_ok h
  have hu := fit_used h
  unfold okP at ho
  rw [if_pos h1] at ho
  simp only [conB, Bool.and_eq_true, decide_eq_true_eq, Bool.not_eq_true'] at ho
  obtain ⟨⟨⟨⟨⟨k1, k2⟩, k3⟩, k4⟩, k5⟩, k6⟩ := ho
  refine ⟨?_, k2⟩
  cases hw : p.hasWill with
  | true =>
    rw [hw] at k6
    simp at k6
    exact ⟨k6.1.2, k6.2⟩
  | false =>
    have hq : p.qos = (usedP p).qos := by rw [← hu]
    unfold usedP at hq
    rw [if_pos h1] at hq
    simp only at hq
    rw [hw] at hq
    simp at hq
    omega
theorem fit_c2 {p : Pk} (h : fitB p = true) (h1 : p.ty = 2) : ∃ c, p.codes = [c] ∧ 0 ≤ c ∧ c ≤ 5 := by
  have ho := fit_ok h
  unfold okP at ho
  rw [if_neg (by omega), if_pos h1] at ho
  unfold ackB at ho
  split at ho
  · rename_i c hc
    simp only [Bool.and_eq_true, decide_eq_true_eq] at ho
    exact ⟨c, hc, ho.1.1, ho.1.2⟩
  · cases ho
theorem fit_i3 {p : Pk} (h : fitB p = true) (h1 : p.ty = 3) : (0 ≤ p.qos ∧ p.qos ≤ 2) ∧ (0 < p.qos → 0 ≤ p.id ∧ p.id ≤ 65535) := by
  have ho := fit_ok h
  unfold okP at ho
  rw [if_neg (by omega), if_neg (by omega), if_pos h1] at ho
  simp only [pubB, idB, Bool.and_eq_true, Bool.or_eq_true, decide_eq_true_eq] at ho
  obtain ⟨⟨⟨k1, k2⟩, k3⟩, k4⟩ := ho
  exact ⟨⟨k2, k3⟩, fun h0 => by rcases k4 with k4 | k4 <;> omega⟩
theorem fit_i4 {p : Pk} (h : fitB p = true) (h1 : p.ty = 4 ∨ p.ty = 5 ∨ p.ty = 6 ∨ p.ty = 7 ∨ p.ty = 11) : 0 ≤ p.id ∧ p.id ≤ 65535 := by
  have ho := fit_ok h
  unfold okP at ho
  rw [if_neg (by omega), if_neg (by omega), if_neg (by omega), if_pos h1] at ho
  simp only [idB, decide_eq_true_eq] at ho
  omega
theorem fit_s8 {p : Pk} (h : fitB p = true) (h1 : p.ty = 8 ∨ p.ty = 10) : (0 ≤ p.id ∧ p.id ≤ 65535) ∧ (∀ s ∈ p.subs, 0 ≤ s.2 ∧ s.2 ≤ 255) ∧ p.codes = [] := by
  have ho := fit_ok h
  have hu := fit_used h
  unfold okP at ho
  rw [if_neg (by omega), if_neg (by omega), if_neg (by omega), if_neg (by omega), if_pos h1] at ho
  simp only [idB, subsB, Bool.and_eq_true, decide_eq_true_eq] at ho
  refine ⟨by omega, fun s hs => ?_, ?_⟩
  · have := List.all_eq_true.1 ho.2.1 s hs
    simp only [subB, Bool.and_eq_true, decide_eq_true_eq] at this
    omega
  · have hq : p.codes = (usedP p).codes := by rw [← hu]
    unfold usedP at hq
    rw [if_neg (by omega), if_neg (by omega), if_neg (by omega), if_neg (by omega), if_pos h1] at hq
    exact hq
theorem fit_c9 {p : Pk} (h : fitB p = true) (h1 : p.ty = 9) : (0 ≤ p.id ∧ p.id ≤ 65535) ∧ (∀ z ∈ p.codes, 0 ≤ z ∧ z ≤ 255) ∧ p.subs = [] := by
  have ho := fit_ok h
  have hu := fit_used h
  unfold okP at ho
  rw [if_neg (by omega), if_neg (by omega), if_neg (by omega), if_neg (by omega), if_neg (by omega), if_pos h1] at ho
  simp only [idB, codesB, Bool.and_eq_true, decide_eq_true_eq] at ho
  refine ⟨by omega, fun s hs => ?_, ?_⟩
  · have := List.all_eq_true.1 ho.2.1 s hs
    simp only [codeB, Bool.and_eq_true, Bool.or_eq_true, decide_eq_true_eq] at this
    omega
  · have hq : p.subs = (usedP p).subs := by rw [← hu]
    unfold usedP at hq
    rw [if_neg (by omega), if_neg (by omega), if_neg (by omega), if_neg (by omega), if_neg (by omega), if_pos h1] at hq
    exact hq
theorem RetApp.fin {base : Nat} {A : Option Addr} {N : Nat} {ys : List UInt8} {w0 w : World} {e : Ending} {w' : World} (h : RetApp base A N ys w e w') (b : Below w0.heap.size w0 w) (hA : ∀ i, SoA A i → base ≤ i) (hb : base ≤ w0.heap.size) : RetFin base N ys w0 e w' := by
  obtain ⟨A', c', rfl, o, k, -⟩ := h
  exact ⟨A', c', rfl, o, But.below (b.mono hb) k hA (Nat.le_trans hb b.size)⟩
theorem RetFin.on {base : Nat} {N : Nat} {ys : List UInt8} {w0 w : World} {e : Ending} {w' : World} (h : RetFin base N ys w e w') (b : Below w0.heap.size w0 w) (hb : base ≤ w0.heap.size) : RetFin base N ys w0 e w' := by
  obtain ⟨A', c', rfl, o, k⟩ := h
  exact ⟨A', c', rfl, o, (b.mono hb).trans k⟩

theorem fit_t1 {p : Pk} (h : fitB p = true) (h1 : p.ty = 1) : ∀ s ∈ textsP p, s.length ≤ 65535 := by
  have ho := fit_ok h
  unfold okP at ho
  rw [if_pos h1] at ho
  simp only [conB, Bool.and_eq_true, decide_eq_true_eq, Bool.not_eq_true'] at ho
  obtain ⟨⟨⟨⟨⟨k1, k2⟩, k3⟩, k4⟩, k5⟩, k6⟩ := ho
  have l1 := isStr_len k1
  have l4 := isStr_len k4
  intro s hs
  unfold textsP at hs
  simp only [List.mem_append, List.mem_cons, List.not_mem_nil, or_false] at hs
  rcases hs with ((hs | hs) | hs) | hs
  · rw [hs]; exact l1
  · split at hs
    · rename_i hw
      rw [hw] at k6
      simp at k6
      simp at hs
      rcases hs with rfl | rfl
      · exact fullB_len k6.1.1.1
      · exact k6.1.1.2
    · simp at hs
  · split at hs
    · simp at hs
      rw [hs]; exact l4
    · simp at hs
  · split at hs
    · simp at hs
      rw [hs]; exact k5
    · simp at hs
theorem fit_t3 {p : Pk} (h : fitB p = true) (h1 : p.ty = 3) : p.topic.length ≤ 65535 := by
  have ho := fit_ok h
  unfold okP at ho
  rw [if_neg (by omega), if_neg (by omega), if_pos h1] at ho
  simp only [pubB, Bool.and_eq_true] at ho
  exact fullB_len ho.1.1.1
theorem fit_t8 {p : Pk} (h : fitB p = true) (h1 : p.ty = 8 ∨ p.ty = 10) : ∀ s ∈ p.subs, s.1.length ≤ 65535 := by
  have ho := fit_ok h
  unfold okP at ho
  rw [if_neg (by omega), if_neg (by omega), if_neg (by omega), if_neg (by omega), if_pos h1] at ho
  simp only [subsB, Bool.and_eq_true] at ho
  intro s hs
  have := List.all_eq_true.1 ho.2.1 s hs
  simp only [subB, Bool.and_eq_true] at this
  exact fullB_len this.1.1

set_option maxRecDepth 100000 in
set_option maxHeartbeats 4000000 in
theorem behind_any (base : Nat) (A : Option Addr) (n c N : Nat) (xs : List UInt8) (p : Pk) (C : Option Addr) (nc kc : Nat) (S : Option Addr) (ns ks : Nat) (w : World) (hf : fitB p = true) (hM : PkM w p C nc kc S ns ks) (hs : PkU p) (h : w.ownsRow base 5 1 (.slice A n c) n (bv xs)) (hb : base ≤ w.heap.size) (hn : n ≤ 1000000) (hCb : 0 < nc → ∀ i, SoA C i → i < base) (hSb : 0 < ns → ∀ i, SoA S i → i < base)
    (hN : n + (bodyP p).length = N) : Calls Try.prog 30 #[.slice A n c, pkA p C nc kc S ns ks] w (RetFin base N (xs ++ bodyP p) w) := by
  have hAl := own_lt h
  have hAb := ownS_new h
  obtain ⟨q, hq⟩ : ∃ q, p = q := ⟨_, rfl⟩
  have HBq : bodyP p = bodyP q := by rw [hq]
  rw [HBq] at hN ⊢
  clear HBq
  have HM := hide (show ∀ W, Below w.heap.size w W → PkM W q C nc kc S ns ks from fun W b => by rw [← hq]; exact hM.keep b)
  have HO := hide (show ∀ W, Below w.heap.size w W → W.ownsRow base 5 1 (.slice A n c) n (bv xs) from fun W b => own_keep h b)
  rw [hq] at hf hs
  have Hf := hide hf
  have Hs := hide hs
  have hnc : nc ≤ 1048576 := by rw [← hM.1, hq]; exact hs.2.2.2.2.2.1
  have hns : ns ≤ 1048576 := by rw [← hM.2.2.2.1, hq]; exact hs.2.2.2.2.2.2.1
  clear hM h hf hs
  obtain ⟨ty, dup, id, topic, payload, qos, retain, client, clean, alive, hasWill, hasUser, hasPass, user, pass, present, codes, subs⟩ := p
  have hty : q.ty = ty := by rw [← hq]
  have Hq := hide hq
  have HN := hide hN
  clear hq hN
  by_cases c1 : ty = 1
  · subst c1
    have hq1 := fit_q1 Hf.out hty
    have e : bodyP q = conBody q := by unfold bodyP; rw [if_pos hty]
    have hN := HN.out
    rw [e] at hN
    simp only [pkA]
    go_enter Try.func30, Try.ntmps30
    go_upto_region 3 with fail
    generalize hW : w.alloc _ = W
    obtain ⟨g, hg, hB, bW, -⟩ := boxedP (p := ⟨1, dup, id, topic, payload, qos, retain, client, clean, alive, hasWill, hasUser, hasPass, user, pass, present, codes, subs⟩) hW
    have bw : Below w.heap.size w W := by rw [hg]; exact bW
    rw [hg]
    have HB := hide (show Blk W g 35 (pkVs q C nc kc S ns ks) from by rw [← Hq.out]; exact hB)
    have hM := HM.out W bw
    have hO := HO.out W bw
    have hbW := Nat.le_trans hb bw.size
    have HgW := hide (show w.heap.size ≤ g by omega)
    have Hbw := hide bw
    clear hW hg hB bW bw
    refine wp_region_lit ?_
    refine wpList_mv rfl (.tmp 0) rfl ?_
    refine wpList_loadP rfl 35 (.tmp 3) rfl g 35 q C nc kc S ns ks rfl HB.out Try.underlying35 rfl (by kernel_rfl) ?_
    have P : Calls Try.prog 56 #[.slice A n c, pkA q C nc kc S ns ks] W (RetFin base N (xs ++ bodyP q) W) := by
      have h1 := behindConnect_any base A n c N xs q C nc kc S ns ks W (fit_t1 Hf.out hty) hO hbW hn hq1.1.1 hq1.1.2 hq1.2 hN
      rw [e]
      exact h1
    clear hM hO e hN
    go_wp2_with fail
    refine P.mono ?_
    rintro e w1 hF
    have hF := hF.on Hbw.out hb
    obtain ⟨A2, c2, rfl, o2, b2⟩ := hF
    have HF := hide (show RetFin base N (xs ++ bodyP q) w (.returned (.slice A2 N c2)) w1 from ⟨A2, c2, rfl, o2, b2⟩)
    clear o2 b2 P
    go_wp2_with fail
    go_ret
    exact HF.out
  by_cases c3 : ty = 3
  · subst c3
    have hq3 := fit_i3 Hf.out hty
    have e : bodyP q = textL q.topic ++ (if 0 < q.qos then wordI q.id else []) ++ q.payload := by unfold bodyP; rw [if_neg (by omega), if_neg (by omega), if_pos hty]
    have hN := HN.out
    rw [e] at hN
    simp only [pkA]
    go_enter Try.func30, Try.ntmps30
    go_upto_region 7 with fail
    generalize hW : w.alloc _ = W
    obtain ⟨g, hg, hB, bW, -⟩ := boxedP (p := ⟨3, dup, id, topic, payload, qos, retain, client, clean, alive, hasWill, hasUser, hasPass, user, pass, present, codes, subs⟩) hW
    have bw : Below w.heap.size w W := by rw [hg]; exact bW
    rw [hg]
    have HB := hide (show Blk W g 35 (pkVs q C nc kc S ns ks) from by rw [← Hq.out]; exact hB)
    have hM := HM.out W bw
    have hO := HO.out W bw
    have hbW := Nat.le_trans hb bw.size
    have HgW := hide (show w.heap.size ≤ g by omega)
    have Hbw := hide bw
    clear hW hg hB bW bw
    refine wp_region_lit ?_
    refine wpList_mv rfl (.tmp 0) rfl ?_
    refine wpList_loadP rfl 35 (.tmp 3) rfl g 35 q C nc kc S ns ks rfl HB.out Try.underlying35 rfl (by kernel_rfl) ?_
    have P : Calls Try.prog 57 #[.slice A n c, pkA q C nc kc S ns ks] W (RetFin base N (xs ++ bodyP q) W) := by
      have h1 := behindPublish_any base A n c N xs q C nc kc S ns ks W hO hbW hn (fit_t3 Hf.out hty) Hs.out.2.1 hq3.2 hN
      rw [e]
      exact h1
    clear hM hO e hN
    go_wp2_with fail
    refine P.mono ?_
    rintro e w1 hF
    have hF := hF.on Hbw.out hb
    obtain ⟨A2, c2, rfl, o2, b2⟩ := hF
    have HF := hide (show RetFin base N (xs ++ bodyP q) w (.returned (.slice A2 N c2)) w1 from ⟨A2, c2, rfl, o2, b2⟩)
    clear o2 b2 P
    go_wp2_with fail
    go_ret
    exact HF.out
  by_cases c8 : ty = 8
  · subst c8
    have h8 := fit_s8 Hf.out (.inl hty)
    have e : bodyP q = wordI q.id ++ q.subs.flatMap (subL q.ty) := by unfold bodyP; rw [if_neg (by omega), if_neg (by omega), if_neg (by omega), if_neg (by omega), if_pos (.inl hty), h8.2.2]; simp
    have hN := HN.out
    rw [e, List.length_append, wordI_length, ← Nat.add_assoc] at hN
    simp only [pkA]
    go_enter Try.func30, Try.ntmps30
    go_upto_region 10 with fail
    generalize hW : w.alloc _ = W
    obtain ⟨g, hg, hB, bW, -⟩ := boxedP (p := ⟨8, dup, id, topic, payload, qos, retain, client, clean, alive, hasWill, hasUser, hasPass, user, pass, present, codes, subs⟩) hW
    have bw : Below w.heap.size w W := by rw [hg]; exact bW
    rw [hg]
    have HB := hide (show Blk W g 35 (pkVs q C nc kc S ns ks) from by rw [← Hq.out]; exact hB)
    have hM := HM.out W bw
    have hO := HO.out W bw
    have hbW := Nat.le_trans hb bw.size
    have HgW := hide (show w.heap.size ≤ g by omega)
    have Hbw := hide bw
    clear hW hg hB bW bw
    refine wp_region_lit ?_
    refine wpList_mv rfl (.tmp 0) rfl ?_
    refine wpList_loadP rfl 35 (.tmp 3) rfl g 35 q C nc kc S ns ks rfl HB.out Try.underlying35 rfl (by kernel_rfl) ?_
    have P : Calls Try.prog 58 #[.slice A n c, pkA q C nc kc S ns ks] W (RetFin base N (xs ++ bodyP q) W) := by
      have h1 := behindNames_any base A n c N xs q C nc kc S ns ks W hM hO hbW hn hSb hns (fit_t8 Hf.out (by omega)) h8.2.1 h8.1 hN
      rw [e, ← List.append_assoc]
      exact h1
    clear hM hO e hN
    go_wp2_with fail
    refine P.mono ?_
    rintro e w1 hF
    have hF := hF.on Hbw.out hb
    obtain ⟨A2, c2, rfl, o2, b2⟩ := hF
    have HF := hide (show RetFin base N (xs ++ bodyP q) w (.returned (.slice A2 N c2)) w1 from ⟨A2, c2, rfl, o2, b2⟩)
    clear o2 b2 P
    go_wp2_with fail
    go_ret
    exact HF.out
  by_cases c10 : ty = 10
  · subst c10
    have h8 := fit_s8 Hf.out (.inr hty)
    have e : bodyP q = wordI q.id ++ q.subs.flatMap (subL q.ty) := by unfold bodyP; rw [if_neg (by omega), if_neg (by omega), if_neg (by omega), if_neg (by omega), if_pos (.inr (.inr hty)), h8.2.2]; simp
    have hN := HN.out
    rw [e, List.length_append, wordI_length, ← Nat.add_assoc] at hN
    simp only [pkA]
    go_enter Try.func30, Try.ntmps30
    go_upto_region 10 with fail
    generalize hW : w.alloc _ = W
    obtain ⟨g, hg, hB, bW, -⟩ := boxedP (p := ⟨10, dup, id, topic, payload, qos, retain, client, clean, alive, hasWill, hasUser, hasPass, user, pass, present, codes, subs⟩) hW
    have bw : Below w.heap.size w W := by rw [hg]; exact bW
    rw [hg]
    have HB := hide (show Blk W g 35 (pkVs q C nc kc S ns ks) from by rw [← Hq.out]; exact hB)
    have hM := HM.out W bw
    have hO := HO.out W bw
    have hbW := Nat.le_trans hb bw.size
    have HgW := hide (show w.heap.size ≤ g by omega)
    have Hbw := hide bw
    clear hW hg hB bW bw
    refine wp_region_lit ?_
    refine wpList_mv rfl (.tmp 0) rfl ?_
    refine wpList_loadP rfl 35 (.tmp 3) rfl g 35 q C nc kc S ns ks rfl HB.out Try.underlying35 rfl (by kernel_rfl) ?_
    have P : Calls Try.prog 58 #[.slice A n c, pkA q C nc kc S ns ks] W (RetFin base N (xs ++ bodyP q) W) := by
      have h1 := behindNames_any base A n c N xs q C nc kc S ns ks W hM hO hbW hn hSb hns (fit_t8 Hf.out (by omega)) h8.2.1 h8.1 hN
      rw [e, ← List.append_assoc]
      exact h1
    clear hM hO e hN
    go_wp2_with fail
    refine P.mono ?_
    rintro e w1 hF
    have hF := hF.on Hbw.out hb
    obtain ⟨A2, c2, rfl, o2, b2⟩ := hF
    have HF := hide (show RetFin base N (xs ++ bodyP q) w (.returned (.slice A2 N c2)) w1 from ⟨A2, c2, rfl, o2, b2⟩)
    clear o2 b2 P
    go_wp2_with fail
    go_ret
    exact HF.out
  by_cases c9 : ty = 9
  · subst c9
    have h9 := fit_c9 Hf.out hty
    have e : bodyP q = wordI q.id ++ q.codes.map byteI := by unfold bodyP; rw [if_neg (by omega), if_neg (by omega), if_neg (by omega), if_neg (by omega), if_pos (.inr (.inl hty)), h9.2.2]; simp
    have hN := HN.out
    rw [e, List.length_append, wordI_length, ← Nat.add_assoc, List.length_map] at hN
    simp only [pkA]
    go_enter Try.func30, Try.ntmps30
    go_upto_region 12 with fail
    generalize hW : w.alloc _ = W
    obtain ⟨g, hg, hB, bW, -⟩ := boxedP (p := ⟨9, dup, id, topic, payload, qos, retain, client, clean, alive, hasWill, hasUser, hasPass, user, pass, present, codes, subs⟩) hW
    have bw : Below w.heap.size w W := by rw [hg]; exact bW
    rw [hg]
    have HB := hide (show Blk W g 35 (pkVs q C nc kc S ns ks) from by rw [← Hq.out]; exact hB)
    have hM := HM.out W bw
    have hO := HO.out W bw
    have hbW := Nat.le_trans hb bw.size
    have HgW := hide (show w.heap.size ≤ g by omega)
    have Hbw := hide bw
    clear hW hg hB bW bw
    rw [hM.1] at hN
    refine wp_region_lit ?_
    refine wpList_mv rfl (.tmp 0) rfl ?_
    refine wpList_loadP rfl 35 (.tmp 3) rfl g 35 q C nc kc S ns ks rfl HB.out Try.underlying35 rfl (by kernel_rfl) ?_
    have P : Calls Try.prog 59 #[.slice A n c, pkA q C nc kc S ns ks] W (RetFin base N (xs ++ bodyP q) W) := by
      have h1 := behindCodes_any base A n c N xs q C nc kc S ns ks W hM hO hbW hn hCb hnc h9.2.1 h9.1 hN
      rw [e, ← List.append_assoc]
      exact h1
    clear hM hO e hN
    go_wp2_with fail
    refine P.mono ?_
    rintro e w1 hF
    have hF := hF.on Hbw.out hb
    obtain ⟨A2, c2, rfl, o2, b2⟩ := hF
    have HF := hide (show RetFin base N (xs ++ bodyP q) w (.returned (.slice A2 N c2)) w1 from ⟨A2, c2, rfl, o2, b2⟩)
    clear o2 b2 P
    go_wp2_with fail
    go_ret
    exact HF.out
  by_cases c2 : ty = 2
  · subst c2
    obtain ⟨z, hz, hz0, hz5⟩ := fit_c2 Hf.out hty
    have hcod : codes = [z] := by rw [← hz, ← Hq.out]
    have hpre : q.present = present := by rw [← Hq.out]
    have e : bodyP q = [if present then 1 else 0, byteI z] := by unfold bodyP; rw [if_neg (by omega), if_pos hty, hz, hpre]; rfl
    have hN := HN.out
    rw [e] at hN
    simp only [pkA]
    go_enter Try.func30, Try.ntmps30
    go_upto_region 5 with fail
    generalize hW : w.alloc _ = W
    obtain ⟨g, hg, hB, bW, -⟩ := boxedP (p := ⟨2, dup, id, topic, payload, qos, retain, client, clean, alive, hasWill, hasUser, hasPass, user, pass, present, codes, subs⟩) hW
    have bw : Below w.heap.size w W := by rw [hg]; exact bW
    rw [hg]
    have HB := hide (show Blk W g 35 (pkVs q C nc kc S ns ks) from by rw [← Hq.out]; exact hB)
    have hM := HM.out W bw
    have hO := HO.out W bw
    have hbW := Nat.le_trans hb bw.size
    have HgW := hide (show w.heap.size ≤ g by omega)
    have Hbw := hide bw
    clear hW hg hB bW bw
    obtain ⟨m1, -, mR, -, -, -⟩ := hM
    rw [hz] at m1 mR
    have hn1 : nc = 1 := m1.symm
    subst hn1
    obtain ⟨b, o, rfl, hbl, hcell⟩ := mR.at_ (k := 0) (by omega)
    have cA : W.cell? ⟨b, o, none⟩ = some (.int .i64 z) := by have := hcell 0 (.int .i64 z) rfl; simpa using this
    have c15 := (Blk.p18 HB.out).2.2.2.2.2.2.2.2.2.2.2.2.2.2.2.1
    have c16 := (Blk.p18 HB.out).2.2.2.2.2.2.2.2.2.2.2.2.2.2.2.2.1
    rw [hpre] at c15
    obtain ⟨z, rfl⟩ : ∃ y : Nat, z = (y : Int) := ⟨z.toNat, by omega⟩
    have hfb : flagB present 1 ≤ 1 := by unfold flagB; split <;> omega
    have hbz : bv [if present then 1 else 0, byteI (z : Int)] = [.int .u8 (flagB present 1 : Int), .int .u8 (z : Int)] := by
      rw [bv_cons, bv_cons]
      unfold byteI
      rw [Int.toNat_natCast, u8cell (by omega)]
      cases present <;> rfl
    have PM := mark_any present 1
    have HE := hide e
    have Hpre := hide hpre
    have Hbz := hide hbz
    have hN2 : n + 2 = N := hN
    have hblW := hbl
    clear mR hcell m1 hbl hN e hbz hz hcod hpre
    generalize flagB present 1 = fb at *
    have w1 : IntKind.u8.wrap (fb : Int) = (fb : Int) := by rw [IntKind.wrap_u8]; omega
    have w2 : IntKind.u8.wrap (z : Int) = (z : Int) := by rw [IntKind.wrap_u8]; omega
    have hal := fun ob => (((Below.refl W.heap.size W).drew).alloc (Nat.le_refl _) ob)
    have hgA : ¬ SoA A g := fun ⟨o', e'⟩ => by have h1 := hAl _ _ e'; have h2 := HgW.out; omega
    have hbA : ¬ SoA A b := fun ⟨o', e'⟩ => by have h1 := hCb (by omega) b ⟨o, rfl⟩; have h2 := hAb _ _ e'; omega
    refine wp_region_held_drew (S := fun V => V.cell? ⟨g, 15, none⟩ = some (.bool present) ∧ V.cell? ⟨g, 16, none⟩ = some (.slice (some ⟨b, o, none⟩) 1 kc) ∧ V.cell? ⟨b, o, none⟩ = some (.int .i64 (z : Int))) (by kernel_rfl) ?_ (fun hHeld => ?_)
    · exact ⟨c15, c16, cA⟩
    refine wpAnyH_take (i := 0) (oi := { dst := some 14, op := _, type := _, pos := _, after := _, guard := _ }) (v := ?v6x1) rfl (by kernel_rfl) (by kernel_rfl) (by kernel_rfl) (fun _ _ _ h => h) (Or.inl ⟨by rfl, ?hy6x1⟩) hHeld ?rest6x1
    case hy6x1 => (intro w hSw; go_simp <;> with_reducible rfl)
    try simp only [Act.put, List.setIfInBounds_toArray, List.set_cons_zero, List.set_cons_succ]
    refine wpAnyH_take (i := 1) (oi := { dst := some 15, op := _, type := _, pos := _, after := _, guard := _ }) (v := ?v6x2) rfl (by kernel_rfl) (by kernel_rfl) (by kernel_rfl) (fun _ _ _ h => h) (Or.inl ⟨by rfl, ?hy6x2⟩) hHeld ?rest6x2
    case hy6x2 => (intro w hSw; go_simp <;> with_reducible rfl)
    try simp only [Act.put, List.setIfInBounds_toArray, List.set_cons_zero, List.set_cons_succ]
    refine wpAnyH_take (i := 2) (oi := { dst := some 16, op := _, type := _, pos := _, after := _, guard := _ }) (v := ?v6x3) rfl (by kernel_rfl) (by kernel_rfl) (by kernel_rfl) (fun _ _ _ h => h) (Or.inl ⟨by rfl, ?hy6x3⟩) hHeld ?rest6x3
    case hy6x3 => (intro w hSw; go_simp <;> with_reducible rfl)
    try simp only [Act.put, List.setIfInBounds_toArray, List.set_cons_zero, List.set_cons_succ]
    refine wpAnyH_take (i := 5) (oi := { dst := some 19, op := _, type := _, pos := _, after := _, guard := _ }) (v := ?v6x4) rfl (by kernel_rfl) (by kernel_rfl) (by kernel_rfl) (fun _ _ _ h => h) (Or.inl ⟨by rfl, ?hy6x4⟩) hHeld ?rest6x4
    case hy6x4 => (intro w hSw; go_simp <;> with_reducible rfl)
    try simp only [Act.put, List.setIfInBounds_toArray, List.set_cons_zero, List.set_cons_succ]
    refine wpAnyH_take (i := 6) (oi := { dst := some 20, op := _, type := _, pos := _, after := _, guard := _ }) (v := ?v6x5) rfl (by kernel_rfl) (by kernel_rfl) (by kernel_rfl) (fun _ _ _ h => h) (Or.inl ⟨by rfl, ?hy6x5⟩) hHeld ?rest6x5
    case hy6x5 => (intro w hSw; go_simp <;> with_reducible rfl)
    try simp only [Act.put, List.setIfInBounds_toArray, List.set_cons_zero, List.set_cons_succ]
    refine wpAnyH_take (i := 7) (oi := { dst := some 21, op := _, type := _, pos := _, after := _, guard := _ }) (v := ?v6x6) rfl (by kernel_rfl) (by kernel_rfl) (by kernel_rfl) (fun _ _ _ h => h) (Or.inl ⟨by rfl, ?hy6x6⟩) hHeld ?rest6x6
    case hy6x6 => (intro w hSw; go_simp <;> with_reducible rfl)
    try simp only [Act.put, List.setIfInBounds_toArray, List.set_cons_zero, List.set_cons_succ]
    refine wpAnyH_take (i := 8) (oi := { dst := some 22, op := _, type := _, pos := _, after := _, guard := _ }) (v := ?v6x7) rfl (by kernel_rfl) (by kernel_rfl) (by kernel_rfl) (fun _ _ _ h => h) (Or.inl ⟨by rfl, ?hy6x7⟩) hHeld ?rest6x7
    case hy6x7 => (intro w hSw; go_simp <;> with_reducible rfl)
    try simp only [Act.put, List.setIfInBounds_toArray, List.set_cons_zero, List.set_cons_succ]
    refine wpAnyH_take (i := 9) (oi := { dst := some 23, op := _, type := _, pos := _, after := _, guard := _ }) (v := ?v6x8) rfl (by kernel_rfl) (by kernel_rfl) (by kernel_rfl) (fun _ _ _ h => h) (Or.inl ⟨by rfl, ?hy6x8⟩) hHeld ?rest6x8
    case hy6x8 => (intro w hSw; go_simp <;> with_reducible rfl)
    try simp only [Act.put, List.setIfInBounds_toArray, List.set_cons_zero, List.set_cons_succ]
    refine wpAnyH_ready (rs := [3]) (by kernel_rfl) (by simp) (AllReadyH.cons (o := { dst := some 17, op := _, type := _, pos := _, after := _, guard := _ }) rfl (fun K hK => ?_) AllReadyH.nil)
    go_simp
    refine (PM _).mono ?_
    rintro e w4 ⟨rfl, rfl⟩
    go_wp2_with fail
    refine hK.out _ _ ?_ (fun hHeld => ?_)
    · exact hHeld
    clear hK K
    try simp only [Act.put, List.setIfInBounds_toArray, List.set_cons_zero, List.set_cons_succ]
    refine wpAnyH_take (i := 4) (oi := { dst := some 18, op := _, type := _, pos := _, after := _, guard := _ }) (v := ?v6x10) rfl (by kernel_rfl) (by kernel_rfl) (by kernel_rfl) (fun _ _ _ h => h) (Or.inl ⟨by rfl, ?hy6x10⟩) hHeld ?rest6x10
    case hy6x10 => (intro w hSw; go_simp <;> with_reducible rfl)
    try simp only [Act.put, List.setIfInBounds_toArray, List.set_cons_zero, List.set_cons_succ]
    refine wpAnyH_ready (rs := [10]) (by kernel_rfl) (by simp) (AllReadyH.cons (o := { dst := some 24, op := _, type := _, pos := _, after := _, guard := _ }) rfl (fun K hK => ?_) AllReadyH.nil)
    go_simp
    go_wp2_with fail
    refine hK.out _ _ ?_ (fun hHeld => ?_)
    · exact ⟨by have h1 := (Blk.p18 (HB.out.keep (hal (.cells #[.int .u8 (fb : Int), .int .u8 (z : Int)] 5)))).2.2.2.2.2.2.2.2.2.2.2.2.2.2.2.1; rw [Hpre.out] at h1; exact h1, (Blk.p18 (HB.out.keep (hal _))).2.2.2.2.2.2.2.2.2.2.2.2.2.2.2.2.1, ((hal _).cell (p := ⟨b, o, none⟩) hblW).trans cA⟩
    clear hK K
    try simp only [Act.put, List.setIfInBounds_toArray, List.set_cons_zero, List.set_cons_succ]
    refine wpAnyH_ready (rs := [11]) (by kernel_rfl) (by simp) (AllReadyH.cons (o := { dst := some 25, op := _, type := _, pos := _, after := _, guard := _ }) rfl (fun K hK => ?_) AllReadyH.nil)
    rw [if_pos (by rfl)]
    refine op_app2 (.tmp 14) (.tmp 24) 28 rfl 5 _ _ Try.underlying28 u8_info rfl base A n c (bv xs) rfl (own_keep hO (((Below.refl _ _).alloc (Nat.le_refl _) _).drew)) (some ⟨W.heap.size, 0, none⟩) 2 2 [.int .u8 (fb : Int), .int .u8 (z : Int)] rfl (Blk.new W 5 [.int .u8 (fb : Int), .int .u8 (z : Int)]).rd (by intro u hu; simp at hu; rcases hu with rfl | rfl <;> rfl) (by unfold maxLen; omega) (by omega) (Nat.le_trans hbW (by simp)) ?_
    intro A3 k3 w3 o3 b3 h3
    have hbt : But (SoA A) W w3 := But.after (hal _) b3
    have HB3 := HB.out.but hbt hgA
    have cA3 : w3.cell? ⟨b, o, none⟩ = some (.int .i64 (z : Int)) := (World.cell?_of_block (w := W) (hbt.block b hblW hbA)).trans cA
    have o4 : w3.ownsRow base 5 1 (.slice A3 N k3) N (bv (xs ++ bodyP q)) := by rw [HE.out, bv_append, Hbz.out, ← hN2]; exact o3
    have HF := hide (show RetFin base N (xs ++ bodyP q) w (.returned (.slice A3 N k3)) w3 from ⟨A3, k3, rfl, o4, But.below (Hbw.out.mono hb) hbt (fun i ⟨o, e⟩ => hAb i o e) hbW⟩)
    clear o3 b3 h3 o4
    refine hK.out _ _ ?_ (fun hHeld => ?_)
    · exact ⟨by have h1 := (Blk.p18 HB3).2.2.2.2.2.2.2.2.2.2.2.2.2.2.2.1; rw [Hpre.out] at h1; exact h1, (Blk.p18 HB3).2.2.2.2.2.2.2.2.2.2.2.2.2.2.2.2.1, cA3⟩
    clear hK K
    try simp only [Act.put, List.setIfInBounds_toArray, List.set_cons_zero, List.set_cons_succ]
    refine wpAnyH_take (i := 12) (oi := { dst := some 4, op := _, type := _, pos := _, after := _, guard := _ }) (v := ?v6x13) rfl (by kernel_rfl) (by kernel_rfl) (by kernel_rfl) (fun _ _ _ h => h) (Or.inl ⟨by rfl, ?hy6x13⟩) hHeld ?rest6x13
    case hy6x13 => (intro w hSw; go_simp <;> with_reducible rfl)
    try simp only [Act.put, List.setIfInBounds_toArray, List.set_cons_zero, List.set_cons_succ]
    refine wpAnyH_done (by kernel_rfl) ?_ _
    go_wp2_with fail
    go_ret
    exact HF.out
  have hty2 := Hf.out
  simp only [fitB, Bool.and_eq_true, decide_eq_true_eq] at hty2
  have hrange := hty2.1.1
  rw [hty] at hrange
  clear hty2
  have q1 : (ty == 1) = false := by simpa using c1
  have q2 : (ty == 2) = false := by simpa using c2
  have q3 : (ty == 3) = false := by simpa using c3
  have q8 : (ty == 8) = false := by simpa using c8
  have q9 : (ty == 9) = false := by simpa using c9
  have q10 : (ty == 10) = false := by simpa using c10
  by_cases c12 : ty = 12 ∨ ty = 13 ∨ ty = 14
  · have e : bodyP q = [] := by unfold bodyP; rw [if_neg (by omega), if_neg (by omega), if_neg (by omega), if_neg (by omega), if_neg (by omega)]
    have hN := HN.out
    rw [e] at hN
    have hNn : n = N := hN
    have HE := hide e
    clear c1 c2 c3 c8 c9 c10 q1 q2 q3 q8 q9 q10 hrange hty hN e
    subst hNn
    rw [HE.out, List.append_nil]
    rcases c12 with c4 | c4 | c4
    all_goals
      subst c4
      simp only [pkA]
      go_enter Try.func30, Try.ntmps30
      go_wp2_with fail
      go_ret
      have bw := (Below.refl w.heap.size w).alloc (Nat.le_refl _) (.cells (arr (pkVs q C nc kc S ns ks)) 35)
      rw [← Hq.out] at bw
      exact ⟨A, c, rfl, HO.out _ bw, bw.mono hb⟩
  have c4 : ty = 4 ∨ ty = 5 ∨ ty = 6 ∨ ty = 7 ∨ ty = 11 := by omega
  have h4 := fit_i4 Hf.out (by rw [hty]; exact c4)
  have e : bodyP q = wordI q.id := by unfold bodyP; rw [if_neg (by omega), if_neg (by omega), if_neg (by omega), if_pos (by omega)]
  have hqi : q.id = id := by rw [← Hq.out]
  have hN := HN.out
  rw [e] at hN
  have hN2 : n + 2 = N := hN
  rw [e, hqi]
  rw [hqi] at h4
  have q12 : (ty == 12) = false := by simp; omega
  have q13 : (ty == 13) = false := by simp; omega
  have q14 : (ty == 14) = false := by simp; omega
  clear c1 c2 c3 c8 c9 c10 c12 hrange hN e c4
  simp only [pkA]
  go_enter Try.func30, Try.ntmps30
  go_upto_region 17 with fail
  generalize hW : w.alloc _ = W
  obtain ⟨g, hg, hB, bW, -⟩ := boxedP (p := ⟨ty, dup, id, topic, payload, qos, retain, client, clean, alive, hasWill, hasUser, hasPass, user, pass, present, codes, subs⟩) hW
  have bw : Below w.heap.size w W := by rw [hg]; exact bW
  rw [hg]
  have c2' := (Blk.p18 hB).2.2.1
  have P := (addWord_any base A n c N xs W id (HO.out W bw) hN2 (by omega) (Nat.le_trans hb bw.size) h4.1 h4.2)
  have Hbw := hide bw
  clear hW hg hB bW bw q1 q2 q3 q8 q9 q10 q12 q13 q14 hty
  go_wp2_with fail
  refine P.mono ?_
  rintro e w1 hF
  have hF := hF.fin Hbw.out (fun i ⟨o, e⟩ => hAb i o e) hb
  obtain ⟨A2, c2, rfl, o2, b2⟩ := hF
  have HF := hide (show RetFin base N (xs ++ wordI id) w (.returned (.slice A2 N c2)) w1 from ⟨A2, c2, rfl, o2, b2⟩)
  clear o2 b2 P
  go_wp2_with fail
  go_ret
  exact HF.out

end Go.Proofs.Ytkgidimaiedocaa

namespace Go.Proofs.Ytkgidimaiedocaa
set_option linter.unusedVariables false
set_option linter.unusedSimpArgs false
open Go.RowKit

/-- make([]T, 0, n), T of one cell. -/
theorem run_mkZ {P : Program} (t e : TypeId) (z : Value) (bytes : Nat) (ht : P.underlying t = some (.slice e)) (hinfo : (P.info? e).map (fun i => (i.zero, i.size, i.bytes)) = some (some z, 1, bytes)) (hz1 : z.cells = #[z])
    (n : Nat) (hbytes : bytes * n ≤ 281474976710656) (h63 : n ≤ 9223372036854775807) (ni : Int) (hni : ni = (n : Int)) (w : World) :
    (Instr.makeSlice t (.int .i64 0) (.int .i64 ni)).run P w = .ok (.slice (some ⟨w.heap.size, 0, none⟩) 0 n) (w.alloc (.cells (arr (List.replicate n z)) e)) := by
  subst hni
  obtain ⟨i, hi, hzz⟩ := Option.map_eq_some_iff.1 hinfo
  simp only [Prod.mk.injEq] at hzz
  obtain ⟨hz, hs, hb⟩ := hzz
  have hb' : ((bytes * n : Nat) : Int) ≤ 281474976710656 := by omega
  rw [Int.natCast_mul] at hb'
  have hr := run_make (P := P) w t e i z ht hi hz .i64 .i64 0 n (by omega) (by omega) (by rw [hb]; exact hb') (by omega)
  rw [hs, hz1, Nat.mul_one, madeCells_one, Int.toNat_natCast] at hr
  exact hr
theorem own_madeZ (w : World) (base : Nat) (hb : base ≤ w.heap.size) (e : TypeId) (z : Value) (n : Nat) (hn : n ≤ maxLen) : (w.alloc (.cells (arr (List.replicate n z)) e)).ownsRow base e 1 (.slice (some ⟨w.heap.size, 0, none⟩) 0 n) 0 [] :=
  ⟨rfl, .inr ⟨w.heap.size, n, arr (List.replicate n z), rfl, hb, Blk.new w e _, Nat.zero_le _, hn, by rw [arr_size]; simp, by simp⟩⟩
theorem op_loadP {P : Program} {w : World} {o : Oper} {a : Act} {K : Act → World → Prop} {Q : Exit → Act → World → Prop} (ty : TypeId) (x : Operand) (ho : o.op = .load ty x) (g : Nat) (t : TypeId) (p : Pk) (C : Option Addr) (nc kc : Nat) (S : Option Addr) (ns ks : Nat)
    (hx : a.eval x = .pointer (some ⟨g, 0, none⟩)) (hB : Blk w g t (pkVs p C nc kc S ns ks)) {d : TypeDesc} (hu : P.underlying ty = some d) (hd : d.isRow = true) (hi : (P.info? ty).map (·.size) = some 18)
    (h : K (a.put o.dst (pkA p C nc kc S ns ks)) w) : Oper.wp P o a w K Q := by
  have hr := run_loadAt_mid (P := P) w g 0 ty (pkVs p C nc kc S ns ks) d hB.range hu hd hi
  unfold Oper.wp execOp
  simp only [ho, hx, Sem.run_bind, hr, Result.andThen_ok]
  exact h
/-- What Bytes returns. -/
def ByPost (p : Pk) (w : World) (e : Ending) (w' : World) : Prop := if mayP p = true
  then ∃ A c, e = .returned (.tuple #[.slice A (layP p).length c, .int .i64 0]) ∧ w'.ownsRow w.heap.size 5 1 (.slice A (layP p).length c) (layP p).length (bv (layP p)) ∧ Below w.heap.size w w'
  else e = .returned (.tuple #[.slice none 0 0, .int .i64 1]) ∧ Below w.heap.size w w'

set_option maxRecDepth 100000 in
set_option maxHeartbeats 4000000 in
theorem bytes_any (p : Pk) (C : Option Addr) (nc kc : Nat) (S : Option Addr) (ns ks : Nat) (w : World) (hM : PkM w p C nc kc S ns ks) (hs : PkU p) : Calls Try.prog 10 #[pkA p C nc kc S ns ks] w (ByPost p w) := by
  obtain ⟨q, hq⟩ : ∃ q, p = q := ⟨_, rfl⟩
  rw [hq] at hM hs
  have hBP : ByPost p w = ByPost q w := by rw [hq]
  rw [hBP]
  clear hBP
  have Hq := hide hq
  have HM := hide (show ∀ W, Below w.heap.size w W → PkM W q C nc kc S ns ks from fun W b => hM.keep b)
  have Hs := hide hs
  have HC := hide (show 0 < nc → ∀ i, SoA C i → i < w.heap.size from fun h0 i ⟨o, e⟩ => by
    obtain ⟨b', o', e', hl, -⟩ := hM.2.2.1.at_ h0
    rw [e] at e'
    injection e' with e'
    injection e' with e1
    omega)
  have HSb := hide (show 0 < ns → ∀ i, SoA S i → i < w.heap.size from fun h0 i ⟨o, e⟩ => by
    obtain ⟨b', o', e', hl, -⟩ := hM.2.2.2.2.2.at_ (k := 0) (by omega)
    rw [e] at e'
    injection e' with e'
    injection e' with e1
    omega)
  obtain ⟨ty, dup, id, topic, payload, qos, retain, client, clean, alive, hasWill, hasUser, hasPass, user, pass, present, codes, subs⟩ := p
  have hty : q.ty = ty := by rw [← hq]
  clear hq hM hs
  simp only [pkA]
  go_enter Try.func10, Try.ntmps10
  go_upto_region 1 with fail
  generalize hW : w.alloc _ = W
  obtain ⟨g, hg, hB, bW, -⟩ := boxedP (p := ⟨ty, dup, id, topic, payload, qos, retain, client, clean, alive, hasWill, hasUser, hasPass, user, pass, present, codes, subs⟩) hW
  have bw : Below w.heap.size w W := by rw [hg]; exact bW
  have hgw : w.heap.size ≤ g := by omega
  rw [hg]
  have HB := hide (show Blk W g 35 (pkVs q C nc kc S ns ks) from by rw [← Hq.out]; exact hB)
  have PC := check_any q C nc kc S ns ks W (HM.out W bw) Hs.out
  have BW := hide bw
  clear hW hg hB bW bw
  refine wp_region_lit ?_
  refine wpList_loadP rfl 35 (.tmp 1) rfl g 35 q C nc kc S ns ks rfl HB.out Try.underlying35 rfl (by kernel_rfl) ?_
  go_wp2_with fail
  refine PC.mono ?_
  rintro e w1 ⟨rfl, b1⟩
  have HB := hide (HB.out.keep b1)
  have BW := hide (below_on BW.out b1)
  clear b1 PC
  by_cases hm : mayP q = true
  case neg =>
    rw [if_neg hm]
    have Hm := hide hm
    clear hm
    go_wp2_with fail
    go_ret2
    exact (show ByPost q w _ _ from by unfold ByPost; rw [if_neg Hm.out]; exact ⟨rfl, BW.out⟩)
  case pos =>
  rw [if_pos hm]
  obtain ⟨hr, hu, hok, hlen⟩ := mayP_parts hm
  obtain ⟨hfirst, hfl16⟩ := lay_first hm
  have hfit : fitB q = true := by
    have := hm
    rw [mayP_fit, Bool.and_eq_true] at this
    exact this.1
  have hrem := remain_fit q hfit
  have PR := remain_any q C nc kc S ns ks w1 (HM.out w1 BW.out) Hs.out
  rw [← hrem] at PR
  obtain ⟨L, hL⟩ : ∃ L, (bodyP q).length = L := ⟨_, rfl⟩
  rw [hL] at PR hlen
  have HL := hide hL
  have HP := hide (show ∀ A c w', w'.ownsRow w.heap.size 5 1 (.slice A (1 + dgL L + L) c) (1 + dgL L + L) (bv (layP q)) → Below w.heap.size w w' → ByPost q w (.returned (.tuple #[.slice A (1 + dgL L + L) c, .int .i64 0])) w' from fun A c w' o b => by
    unfold ByPost
    rw [if_pos hm]
    have hl : (layP q).length = 1 + dgL L + L := by rw [lay_len, HL.out, dg_length _ hlen]
    rw [hl]
    exact ⟨A, c, rfl, o, b⟩)
  have hqos : (q.ty = 3 → 0 ≤ q.qos) ∧ (q.ty = 3 → q.qos ≤ 3) := ⟨fun h => (fit_i3 hfit h).1.1, fun h => by have := (fit_i3 hfit h).1.2; omega⟩
  obtain ⟨t, rfl⟩ : ∃ t : Nat, ty = (t : Int) := ⟨ty.toNat, by rw [hty] at hr; omega⟩
  have ht14 : t ≤ 14 := by rw [hty] at hr; omega
  have hlay : layP q = UInt8.ofNat (16 * t + flagsP q) :: (dg L ++ bodyP q) := by unfold layP; rw [hty, Int.toNat_natCast, HL.out]
  have HLay := hide hlay
  have Hfit := hide hfit
  have Hqos := hide hqos
  generalize hF : flagsP q = F at *
  have HF := hide hF
  have hd4 := dgL_le L
  clear hr hu hok hm hrem hL hfit hqos hlay hF hfirst
  go_upto_region 5 with (refine wpList_loadP rfl 35 (.tmp 1) rfl g 35 q C nc kc S ns ks rfl HB.out Try.underlying35 rfl (by kernel_rfl) ?_)
  refine PR.mono ?_
  rintro e w2 ⟨rfl, b2⟩
  have HB := hide (HB.out.keep b2)
  have BW := hide (below_on BW.out b2)
  clear b2 PR
  go_wp2_with fail
  refine (vput_ok L hlen w2).mono ?_
  rintro e w3 ⟨D, kd, rfl, hkd, hD, b3⟩
  have HB := hide (HB.out.keep b3)
  have BW := hide (below_on BW.out b3)
  have HD := hide hD
  clear b3 hkd hD
  obtain ⟨dl, hdl⟩ : ∃ dl, dgL L = dl := ⟨_, rfl⟩
  rw [hdl] at HD hd4 ⊢
  rw [hdl] at HP
  have Hdl := hide hdl
  clear hdl
  have hmk := fun V => run_mkZ (P := Try.prog) 28 5 (.int .u8 0) 1 Try.underlying28 u8_info rfl (1 + dl + L) (by omega) (by omega) (1 + (dl : Int) + (L : Int)) (by omega) V
  go_wp2_with fail
  clear hmk
  obtain ⟨z, hz⟩ : ∃ z, w3.heap.size = z := ⟨_, rfl⟩
  obtain ⟨V, hV⟩ : ∃ V, w3.alloc (.cells (arr (List.replicate (1 + dl + L) (Value.int .u8 0))) 5) = V := ⟨_, rfl⟩
  have bV : Below w3.heap.size w3 V := by rw [← hV]; exact (Below.refl _ _).alloc (Nat.le_refl _) _
  have hO : V.ownsRow w.heap.size 5 1 (.slice (some ⟨z, 0, none⟩) 0 (1 + dl + L)) 0 (bv []) := by rw [← hV, ← hz]; exact own_madeZ w3 w.heap.size BW.out.size 5 (.int .u8 0) (1 + dl + L) (by unfold maxLen; omega)
  rw [hV, hz]
  have hgz : g < z := by rw [← hz]; exact HB.out.lt
  have HD3 := HD
  have HD := hide (HD.out.keep bV)
  have HB := hide (HB.out.keep bV)
  have BW := hide (below_on BW.out bV)
  have hT := Trk.start hO BW.out.size
  have hgA : ¬ SoA (some ⟨z, 0, none⟩) g := fun ⟨o, e⟩ => by injection e with e; injection e with e1; omega
  have hDA : Off (SoA (some ⟨z, 0, none⟩)) D := fun b o e ⟨o', e'⟩ => by
    obtain ⟨b', o'', e2, hl, -⟩ := HD3.out.at_ (k := 0) (by omega)
    rw [e] at e2
    injection e2 with e2
    injection e2 with e3
    injection e' with e'
    injection e' with e4
    omega
  have HT := hide hT
  have c0 : V.cell? ⟨g, 0, none⟩ = some (.int .i64 (t : Int)) := by rw [← hty]; exact (Blk.p18 HB.out).1
  obtain ⟨M, hM⟩ : ∃ M, 16 * t + F = M := ⟨_, rfl⟩
  have hM256 : M < 256 := by omega
  have v1 : IntKind.i64.wrap ((t : Int) * 16) = (t : Int) * 16 := by rw [IntKind.wrap_i64]; omega
  have v2 : IntKind.i64.wrap ((t : Int) * 16 + (F : Int)) = (M : Int) := by rw [IntKind.wrap_i64]; omega
  have v3 : IntKind.u8.wrap (M : Int) = (M : Int) := by rw [IntKind.wrap_u8]; omega
  have hbz : bv [UInt8.ofNat M] = [.int .u8 (M : Int)] := by rw [bv_cons, u8cell hM256]; rfl
  rw [hM] at HLay
  have PF := fun Z => flags_p q C nc kc S ns ks Z Hqos.out.1 Hqos.out.2
  rw [HF.out] at PF
  have Hz := hide hz
  have hVb : w.heap.size ≤ V.heap.size := BW.out.size
  clear hV bV hT hO hM hz
  refine wp_region_held_drew (S := fun Z => Z.cell? ⟨g, 0, none⟩ = some (.int .i64 (t : Int))) (by kernel_rfl) ?_ (fun hHeld => ?_)
  · exact c0
  refine wpAnyH_take (i := 0) (oi := { dst := some 27, op := _, type := _, pos := _, after := _, guard := _ }) (v := ?v7x1) rfl (by kernel_rfl) (by kernel_rfl) (by kernel_rfl) (fun _ _ _ h => h) (Or.inl ⟨by rfl, ?hy7x1⟩) hHeld ?rest7x1
  case hy7x1 => (intro w hSw; go_simp <;> with_reducible rfl)
  try simp only [Act.put, List.setIfInBounds_toArray, List.set_cons_zero, List.set_cons_succ]
  refine wpAnyH_take (i := 1) (oi := { dst := some 28, op := _, type := _, pos := _, after := _, guard := _ }) (v := ?v7x2) rfl (by kernel_rfl) (by kernel_rfl) (by kernel_rfl) (fun _ _ _ h => h) (Or.inl ⟨by rfl, ?hy7x2⟩) hHeld ?rest7x2
  case hy7x2 => (intro w hSw; go_simp <;> with_reducible rfl)
  try simp only [Act.put, List.setIfInBounds_toArray, List.set_cons_zero, List.set_cons_succ]
  refine wpAnyH_take (i := 2) (oi := { dst := some 29, op := _, type := _, pos := _, after := _, guard := _ }) (v := ?v7x3) rfl (by kernel_rfl) (by kernel_rfl) (by kernel_rfl) (fun _ _ _ h => h) (Or.inl ⟨by rfl, ?hy7x3⟩) hHeld ?rest7x3
  case hy7x3 => (intro w hSw; go_simp <;> with_reducible rfl)
  try simp only [Act.put, List.setIfInBounds_toArray, List.set_cons_zero, List.set_cons_succ]
  refine wpAnyH_take (i := 3) (oi := { dst := some 30, op := _, type := _, pos := _, after := _, guard := _ }) (v := ?v7x4) rfl (by kernel_rfl) (by kernel_rfl) (by kernel_rfl) (fun _ _ _ h => h) (Or.inl ⟨by rfl, ?hy7x4⟩) hHeld ?rest7x4
  case hy7x4 => (intro w hSw; go_simp <;> with_reducible rfl)
  try simp only [Act.put, List.setIfInBounds_toArray, List.set_cons_zero, List.set_cons_succ]
  refine wpAnyH_ready (rs := [4]) (by kernel_rfl) (by simp) (AllReadyH.cons (o := { dst := some 31, op := _, type := _, pos := _, after := _, guard := _ }) rfl (fun K hK => ?_) AllReadyH.nil)
  rw [if_pos (by rfl)]
  refine op_loadP 35 (.tmp 1) rfl g 35 q C nc kc S ns ks rfl (show Blk V.drew g _ _ from HB.out) Try.underlying35 rfl (by kernel_rfl) ?_
  refine hK.out _ _ ?_ (fun hHeld => ?_)
  · exact hHeld
  clear hK K
  try simp only [Act.put, List.setIfInBounds_toArray, List.set_cons_zero, List.set_cons_succ]
  refine wpAnyH_ready (rs := [5]) (by kernel_rfl) (by simp) (AllReadyH.cons (o := { dst := some 32, op := _, type := _, pos := _, after := _, guard := _ }) rfl (fun K hK => ?_) AllReadyH.nil)
  go_simp
  refine (PF _).mono ?_
  rintro e w5 ⟨rfl, b5⟩
  replace b5 : Below V.heap.size V w5 := below_unN (n := 1) b5
  have HB5 := hide (HB.out.keep b5)
  have HT5 := hide (HT.out.keep b5)
  have HD5 := hide (HD.out.keep b5)
  have hb5 : w.heap.size ≤ w5.heap.size := Nat.le_trans hVb b5.size
  have HV5 := hide (below_on BW.out b5)
  have c5 : w5.cell? ⟨g, 0, none⟩ = some (.int .i64 (t : Int)) := by rw [← hty]; exact (Blk.p18 HB5.out).1
  have hal := fun ob => ((Below.refl w5.heap.size w5).alloc (Nat.le_refl _) ob)
  go_wp2_with fail
  refine hK.out _ _ ?_ (fun hHeld => ?_)
  · exact c5
  clear hK K
  try simp only [Act.put, List.setIfInBounds_toArray, List.set_cons_zero, List.set_cons_succ]
  refine wpAnyH_take (i := 6) (oi := { dst := some 33, op := _, type := _, pos := _, after := _, guard := _ }) (v := ?v7x7) rfl (by kernel_rfl) (by kernel_rfl) (by kernel_rfl) (fun _ _ _ h => h) (Or.inl ⟨by rfl, ?hy7x7⟩) hHeld ?rest7x7
  case hy7x7 => (intro w hSw; go_simp <;> with_reducible rfl)
  try simp only [Act.put, List.setIfInBounds_toArray, List.set_cons_zero, List.set_cons_succ]
  refine wpAnyH_take (i := 7) (oi := { dst := some 34, op := _, type := _, pos := _, after := _, guard := _ }) (v := ?v7x8) rfl (by kernel_rfl) (by kernel_rfl) (by kernel_rfl) (fun _ _ _ h => h) (Or.inl ⟨by rfl, ?hy7x8⟩) hHeld ?rest7x8
  case hy7x8 => (intro w hSw; go_simp <;> with_reducible rfl)
  try simp only [Act.put, List.setIfInBounds_toArray, List.set_cons_zero, List.set_cons_succ]
  refine wpAnyH_ready (rs := [8]) (by kernel_rfl) (by simp) (AllReadyH.cons (o := { dst := some 35, op := _, type := _, pos := _, after := _, guard := _ }) rfl (fun K hK => ?_) AllReadyH.nil)
  go_simp
  go_wp2_with fail
  refine hK.out _ _ ?_ (fun hHeld => ?_)
  · exact ((hal _).cell (p := ⟨g, 0, none⟩) HB5.out.lt).trans c5
  clear hK K
  try simp only [Act.put, List.setIfInBounds_toArray, List.set_cons_zero, List.set_cons_succ]
  refine wpAnyH_ready (rs := [9]) (by kernel_rfl) (by simp) (AllReadyH.cons (o := { dst := some 36, op := _, type := _, pos := _, after := _, guard := _ }) rfl (fun K hK => ?_) AllReadyH.nil)
  rw [if_pos (by rfl)]
  refine op_app2 (.tmp 27) (.tmp 35) 28 rfl 5 _ _ Try.underlying28 u8_info rfl w.heap.size (some ⟨z, 0, none⟩) 0 (1 + dl + L) (bv []) rfl (own_keep HT5.out.own (hal _)) (some ⟨w5.heap.size, 0, none⟩) 1 1 [.int .u8 (M : Int)] rfl (rd_one w5 5 _) (by intro u hu; simp at hu; subst hu; rfl) (by unfold maxLen; omega) (by omega) (Nat.le_trans hb5 (by simp)) ?_
  intro A6 c6 w6 o6 b6 h6
  have hT6 := (HT5.out.keep (hal _)).step (ys := [UInt8.ofNat M]) (by rw [hbz]; exact o6) b6 h6
  have HB6 := HB.out.but hT6.but hgA
  have c6' : w6.cell? ⟨g, 0, none⟩ = some (.int .i64 (t : Int)) := by rw [← hty]; exact (Blk.p18 HB6).1
  have HD6 := hide (HD.out.but hT6.but hDA)
  have HT6 := hide hT6
  have HB6 := hide HB6
  clear o6 b6 h6 hT6
  refine hK.out _ _ ?_ (fun hHeld => ?_)
  · exact c6'
  clear hK K
  try simp only [Act.put, List.setIfInBounds_toArray, List.set_cons_zero, List.set_cons_succ]
  refine wpAnyH_take (i := 10) (oi := { dst := some 8, op := _, type := _, pos := _, after := _, guard := _ }) (v := ?v7x11) rfl (by kernel_rfl) (by kernel_rfl) (by kernel_rfl) (fun _ _ _ h => h) (Or.inl ⟨by rfl, ?hy7x11⟩) hHeld ?rest7x11
  case hy7x11 => (intro w hSw; go_simp <;> with_reducible rfl)
  try simp only [Act.put, List.setIfInBounds_toArray, List.set_cons_zero, List.set_cons_succ]
  refine wpAnyH_done (by kernel_rfl) ?_ _
  clear hHeld c6' hgA hDA v1 v2 v3 PF
  have hb6 := HT6.out.base
  go_upto_region 9 with (at_builtin; refine wpList_app2 rfl (.tmp 37) (.tmp 38) 28 rfl 5 _ _ Try.underlying28 u8_info rfl w.heap.size A6 1 c6 (bv [UInt8.ofNat M]) rfl HT6.out.own D dl kd (bv (dg L)) rfl HD6.out (bv_one _) (by unfold maxLen; omega) (by omega) hb6 ?_; intro A7 c7 w7 o7 b7 h7; rw [← bv_append] at o7)
  have hT7 := HT6.out.step o7 b7 h7
  have hgA2 : ¬ SoA (some ⟨z, 0, none⟩) g := fun ⟨o, e⟩ => by injection e with e; injection e with e1; omega
  have HB7 := hide (HB.out.but hT7.but hgA2)
  have bw7 : Below w.heap.size w w7 := But.below BW.out hT7.but (fun i ⟨o, e⟩ => by injection e with e; injection e with e1; have := Hz.out; omega) BW.out.size
  have PB := behind_any w.heap.size A7 (1 + dl) c7 (1 + dl + L) (UInt8.ofNat M :: dg L) q C nc kc S ns ks w7 Hfit.out (HM.out w7 bw7) Hs.out hT7.own hT7.base (by omega) HC.out HSb.out (by rw [HL.out])
  have HW7 := hide bw7
  clear o7 b7 h7 hT7 bw7 hgA2
  refine wp_region_lit ?_
  refine wpList_mv rfl (.tmp 8) rfl ?_
  refine wpList_loadP rfl 35 (.tmp 1) rfl g 35 q C nc kc S ns ks rfl HB7.out Try.underlying35 rfl (by kernel_rfl) ?_
  go_wp2_with fail
  refine PB.mono ?_
  rintro e w8 ⟨A8, c8, rfl, o8, b8⟩
  have hF : ByPost q w (.returned (.tuple #[.slice A8 (1 + dl + L) c8, .int .i64 0])) w8 := HP.out A8 c8 w8 (by rw [HLay.out]; exact o8) (HW7.out.trans b8)
  have HFin := hide hF
  clear hF o8 b8 PB
  go_wp2_with fail
  go_ret2
  exact HFin.out

end Go.Proofs.Ytkgidimaiedocaa

namespace Go.Proofs.Ytkgidimaiedocaa
set_option linter.unusedVariables false
set_option linter.unusedSimpArgs false
open Go.RowKit

def exP : Pk := ⟨3, false, 10, [97], [104, 105], 1, false, [], false, 0, false, false, false, [], [], false, [], []⟩
def exC : Pk := ⟨1, false, 0, [], [], 0, false, [97], true, 60, false, false, false, [], [], false, [], []⟩
theorem exP_may : mayP exP = true := by decide
theorem exP_lay : layP exP = [50, 7, 0, 1, 97, 0, 10, 104, 105] := by
  have h : (bodyP exP).length = 7 := by decide
  unfold layP
  rw [h, dg_small (by omega)]
  decide
theorem ex_a : readP [192, 0] = some (zeroP 12) := by rw [← parseQ_eq]; decide
theorem ex_b : readP [193, 0] = none := by rw [← parseQ_eq]; decide
theorem ex_c : readP [16, 13, 0, 4, 77, 81, 84, 84, 4, 2, 0, 60, 0, 1, 97] = some exC := by rw [← parseQ_eq]; decide
theorem exP_short : PkS exP := by simp [PkS, exP]
theorem pkM0 (w : World) (p : Pk) (h1 : p.codes = []) (h2 : p.subs = []) : PkM w p none 0 0 none 0 0 := by
  refine ⟨by rw [h1]; rfl, Nat.le_refl _, by rw [h1]; exact Rd.nil _ _, by rw [h2]; rfl, Nat.le_refl _, by rw [h2]; exact Rd.nil _ _⟩

/-- Bytes that lie in a new block are read. -/
theorem parse_new (xs : List UInt8) (o : Option Pk) (ho : readP xs = o) (h65 : xs.length ≤ 65535) (n : Nat) (hn : xs.length = n) (w : World) (g : Nat) (hB : Blk w g 5 (bv xs)) : Calls Try.prog 87 #[.slice (some ⟨g, 0, none⟩) n n] w (PsPost o w) := by
  have hr := hB.rd
  rw [bv_length, hn] at hr
  rw [← ho]
  exact parse_any _ n n xs w hr hn (Nat.le_refl _) (by omega)

theorem rd_marked (w : World) (e : TypeId) (cs : List Value) (fr : Nat × Nat) : Rd (w.alloc (.cells (arr cs) e fr)) (some ⟨w.heap.size, 0, none⟩) cs.length cs :=
  ⟨rfl, fun _ => ⟨w.heap.size, 0, rfl, by simp, fun i v hv => by
    have hh : (w.alloc (.cells (arr cs) e fr)).heap[w.heap.size]? = some (.cells (arr cs) e fr) := by
      show (w.heap.push _)[w.heap.size]? = _
      simp
    unfold World.cell?
    simp only [hh, Nat.zero_add]
    rw [arr_get]
    exact hv⟩⟩

end Go.Proofs.Ytkgidimaiedocaa
