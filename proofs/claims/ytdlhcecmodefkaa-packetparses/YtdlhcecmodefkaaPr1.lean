/-
  What is proved here: the program's reader of packets, one thing after the other (left, octet, word, text, length, rest): what it returns and where it stands then, or that it gives up. Condition: at most 65535 bytes. ALSO: the program's reader of packets: the length behind the first byte. Condition: at most 65535 bytes. ALSO: what the program's reader of packets makes of the fields of a Connack. Condition: at most 65535 bytes. ALSO: what the program's reader of packets makes of the fields of a Publish. Condition: at most 65535 bytes. ALSO: what the program's reader of packets makes of the fields of a Connect. Condition: at most 65535 bytes.
-/
import Derived.Test.YtdlhcecmodefkaaPrMath
import Derived.Test.YtdlhcecmodefkaaPq1
import Derived.Test.YtdlhcecmodefkaaVt3
import Derived.Test.YtdlhcecmodefkaaMem5
import Derived.StillTailTactics
import Derived.WalkMore
import Derived.Deep.RegionHeld3
import Derived.Test.YtdlhcecmodefkaaPkLd
import Derived.Laws.NewBlocks
import Derived.Test.YtdlhcecmodefkaaPq4
namespace Go.Proofs.Ytdlhcecmodefkaa
set_option linter.unusedVariables false
set_option linter.unusedSimpArgs false
open Go.RowKit

/-- A world that came in, and the blocks that may turn: all new ones among them. -/
structure Bs where
  v : World
  S : Nat → Prop
  new : ∀ i, v.heap.size ≤ i → S i
theorem But.drewN {S : Nat → Prop} {w w' : World} (h : But S w w') (q : Nat) : But S w (w'.drewN q) := h.on (below_drewN (Below.refl _ _) q)
/-- The bytes that are read, as they came in. -/
def RrB (v : Bs) (xs : List UInt8) (A : Option Addr) (n k : Nat) : Prop := xs.length = n ∧ n ≤ k ∧ n ≤ 65535 ∧ Rd v.v A n (bv xs) ∧ (0 < n → Off v.S A)
/-- A reader in memory that has ys still ahead. -/
def RrS (v : Bs) (xs : List UInt8) (A : Option Addr) (n k g : Nat) (ys : List UInt8) (w : World) : Prop :=
  ∃ i : Nat, Blk w g 94 [.slice A n k, .int .i64 (i : Int)] ∧ i + ys.length = n ∧ xs.drop i = ys ∧ v.S g ∧ But v.S v.v w
/-- What a call of the reader comes to: it gives up, or returns and has so much still ahead. -/
def RrPost {α : Type} (v : Bs) (xs : List UInt8) (A : Option Addr) (n k g : Nat) (o : Option (α × List UInt8)) (val : α → Value) (w : World) (e : Ending) (w' : World) : Prop := match o with
  | none => e = .panicked gvP ∧ But v.S v.v w'
  | some z => e = .returned (val z.1) ∧ RrS v xs A n k g z.2 w' ∧ But (fun i => i = g) w w'
theorem RrB.rd {v : Bs} {w : World} {xs : List UInt8} {A : Option Addr} {n k : Nat} (h : RrB v xs A n k) (b : But v.S v.v w) : Rd w A n (bv xs) := by
  rcases Nat.eq_zero_or_pos n with h0 | h0
  · exact ⟨h.2.2.2.1.1, fun h1 => absurd h1 (by omega)⟩
  · exact h.2.2.2.1.but b (h.2.2.2.2 h0)

/-- It goes on by j. -/
theorem RrS.goes {v : Bs} {w w1 : World} {xs : List UInt8} {A : Option Addr} {n k g i : Nat} {ys : List UInt8} (hB : Blk w1 g 94 [.slice A n k, .int .i64 (i : Int)]) (hi : i + ys.length = n) (hd : xs.drop i = ys) (hg : v.S g) (hv : But v.S v.v w1) (hbut : But (fun i => i = g) w w1) (j : Nat) (hj : j ≤ ys.length) (z : Int) (hz : z = (i : Int) + (j : Int)) :
    RrS v xs A n k g (ys.drop j) (w1.setCell ⟨g, 1, none⟩ (.int .i64 z)) ∧ But (fun i => i = g) w (w1.setCell ⟨g, 1, none⟩ (.int .i64 z)) := by
  refine ⟨⟨i + j, ?_, by rw [List.length_drop]; omega, by rw [← List.drop_drop, hd], hg, hv.setCell' _ hg⟩, hbut.setCell' _ rfl⟩
  have := hB.set 1 (.int .i64 z)
  rw [hz, ← Int.natCast_add] at this ⊢
  exact this
theorem Blk.drewN {w : World} {g : Nat} {t : TypeId} {cs : List Value} (h : Blk w g t cs) (q : Nat) : Blk (w.drewN q) g t cs := h

theorem rrLeft_any (v : Bs) (xs : List UInt8) (A : Option Addr) (n k g : Nat) (ys : List UInt8) (w : World) (hb : RrB v xs A n k) (h : RrS v xs A n k g ys w) : Calls Try.prog 93 #[.pointer (some ⟨g, 0, none⟩)] w fun e w' => e = .returned (.int .i64 (ys.length : Int)) ∧ RrS v xs A n k g ys w' ∧ But (fun i => i = g) w w' := by
  obtain ⟨i, hB, hi, hd, hg, hv⟩ := h
  obtain ⟨-, -, h65, -, -⟩ := hb
  obtain ⟨m, hm⟩ : ∃ m, ys.length = m := ⟨_, rfl⟩
  rw [hm] at hi ⊢
  have c0 := hB.cell 0
  have c1 := hB.cell 1
  simp only [List.getElem?_cons_zero, List.getElem?_cons_succ] at c0 c1
  have HB := hide hB
  have q1 : ((n : Int) - (i : Int)) = (m : Int) := by omega
  have q2 : IntKind.i64.wrap ((n : Int) - (i : Int)) = (m : Int) := by rw [IntKind.wrap_i64]; omega
  have Hm := hide hm
  have Hi := hide hi
  clear hB hi hm
  go_enter Try.func93, Try.ntmps93
  go_wp2_with fail
  go_quiet (fail)
  go_wp2_with fail
  go_ret
  exact ⟨rfl, ⟨i, HB.out, by rw [Hm.out]; exact Hi.out, hd, hg, But.drewN hv _⟩, But.ofBelow (below_drewN (Below.refl _ _) _) _⟩

theorem rrLeft_q (v : Bs) (xs : List UInt8) (A : Option Addr) (n k g : Nat) (ys : List UInt8) (w : World) (hb : RrB v xs A n k) (h : RrS v xs A n k g ys w) : Calls Try.prog 93 #[.pointer (some ⟨g, 0, none⟩)] w fun e w' => e = .returned (.int .i64 (ys.length : Int)) ∧ ∃ q, w' = w.drewN q := by
  obtain ⟨i, hB, hi, hd, hg, hv⟩ := h
  obtain ⟨-, -, h65, -, -⟩ := hb
  obtain ⟨m, hm⟩ : ∃ m, ys.length = m := ⟨_, rfl⟩
  rw [hm] at hi ⊢
  have c0 := hB.cell 0
  have c1 := hB.cell 1
  simp only [List.getElem?_cons_zero, List.getElem?_cons_succ] at c0 c1
  have q1 : ((n : Int) - (i : Int)) = (m : Int) := by omega
  have q2 : IntKind.i64.wrap ((n : Int) - (i : Int)) = (m : Int) := by rw [IntKind.wrap_i64]; omega
  clear hB hi hm
  go_enter Try.func93, Try.ntmps93
  go_wp2_with fail
  go_quiet (fail)
  go_wp2_with fail
  go_ret
  exact ⟨rfl, _, rfl⟩

theorem rrOctet_any (v : Bs) (xs : List UInt8) (A : Option Addr) (n k g : Nat) (ys : List UInt8) (w : World) (hb : RrB v xs A n k) (h : RrS v xs A n k g ys w) : Calls Try.prog 90 #[.pointer (some ⟨g, 0, none⟩)] w (RrPost v xs A n k g (qB ys) (fun c => .int .i64 (c : Int)) w) := by
  have P := hide (rrLeft_any v xs A n k g ys w hb h)
  clear h
  cases ys with
  | nil =>
    simp only [List.length_nil] at P
    show Calls _ _ _ _ fun e w' => e = .panicked gvP ∧ But v.S v.v w'
    go_enter Try.func90, Try.ntmps90
    go_wp2_with fail
    refine P.out.mono ?_
    rintro e w1 ⟨rfl, ⟨i, -, -, -, -, hv⟩, -⟩
    go_wp2_with fail
    refine (must_no _ _).mono ?_
    rintro e w2 ⟨rfl, rfl⟩
    go_wp2_with fail
    exact ⟨rfl, rfl, hv⟩
  | cons c t =>
    show Calls _ _ _ _ fun e w' => e = .returned (.int .i64 ((c.toNat : Nat) : Int)) ∧ RrS v xs A n k g t w' ∧ But (fun i => i = g) w w'
    obtain ⟨m, hm⟩ : ∃ m, t.length = m := ⟨_, rfl⟩
    rw [List.length_cons, hm] at P
    have q0 : (((m + 1 : Nat) : Int) > 0) := by omega
    have hc8 := c.toNat_lt
    have Hm := hide hm
    clear hm
    obtain ⟨X, hX⟩ : ∃ X, c.toNat = X := ⟨_, rfl⟩
    have HX := hide hX
    rw [hX] at hc8 ⊢
    clear hX
    go_enter Try.func90, Try.ntmps90
    go_wp2_with fail
    refine P.out.mono ?_
    rintro e w1 ⟨rfl, ⟨i, hB, hi, hd, hg, hv⟩, hbut⟩
    rw [List.length_cons, Hm.out] at hi
    obtain ⟨b, o, rfl, hbl, hcell⟩ := (hb.rd hv).at_ (k := i) (by omega)
    have hx : xs[i]? = some c := by
      have := congrArg (fun l => l[0]?) hd
      simpa using this
    have cA : w1.cell? ⟨b, o + i, none⟩ = some (.int .u8 c.toNat) := hcell i _ (by simp [bv, hx])
    have c0 := hB.cell 0
    have c1 := hB.cell 1
    have f1 := hB.frozen 1
    simp only [List.getElem?_cons_zero, List.getElem?_cons_succ] at c0 c1
    have q1 : (i : Int) < (n : Int) := by omega
    have HB := hide hB
    have Hd := hide hd
    have Hi := hide hi
    have Hb := hide hbut
    have h65 := hb.2.2.1
    rw [HX.out] at cA
    clear hB hd hi hbut hx hcell hbl hb
    go_wp2_with fail
    refine (must_ok _ _).mono ?_
    rintro e w2 ⟨rfl, rfl⟩
    go_wp2_with fail
    go_quiet (fail)
    go_wp2_with fail
    go_ret
    exact ⟨rfl, RrS.goes (HB.out.drewN nq) (by rw [List.length_cons, Hm.out]; exact Hi.out) Hd.out hg (But.drewN hv nq) (Hb.out.drewN nq) 1 (by simp) _ rfl⟩

set_option maxRecDepth 100000 in
theorem rrWord_any (v : Bs) (xs : List UInt8) (A : Option Addr) (n k g : Nat) (ys : List UInt8) (w : World) (hb : RrB v xs A n k) (h : RrS v xs A n k g ys w) : Calls Try.prog 108 #[.pointer (some ⟨g, 0, none⟩)] w (RrPost v xs A n k g (qW ys) (fun c => .int .i64 (c : Int)) w) := by
  obtain ⟨i, hB, hi, hd, hg, hv⟩ := h
  have c0 := hB.cell 0
  have c1 := hB.cell 1
  simp only [List.getElem?_cons_zero, List.getElem?_cons_succ] at c0 c1
  have h65 := hb.2.2.1
  have HB := hide (hB : Blk w g 94 [.slice A n k, .int .i64 (i : Int)])
  have Hv := hide hv
  have Hd := hide hd
  have Hi := hide hi
  have Hb := hide (But.refl (fun i => i = g) w)
  have f1 := hB.frozen 1
  have hib : (i : Int) ≤ 65535 := by omega
  have bad : qW ys = none → (n : Int) - 2 < (i : Int) := by
    intro e
    match ys, e, hi with
    | [], _, hi => simp at hi; omega
    | [c], _, hi => simp at hi; omega
  have good : ∀ z, qW ys = some z → ∃ x y : UInt8, xs[i]? = some x ∧ xs[i + 1]? = some y ∧ z = (256 * x.toNat + y.toNat, ys.drop 2) ∧ 2 ≤ ys.length := by
    intro z e
    match ys, e, hd with
    | x :: y :: t, e, hd =>
      injection e with e
      have h0 := congrArg (fun l => l[0]?) hd
      have h1 := congrArg (fun l => l[1]?) hd
      exact ⟨x, y, by simpa using h0, by simpa using h1, e.symm, by simp⟩
  clear hB hd hi hv
  cases hq : qW ys with
  | none =>
    have q1 := bad hq
    have P := hide fun W => at_more A n k (i : Int) W (by omega) q1 (by unfold maxLen; omega)
    show Calls _ _ _ _ fun e w' => e = .panicked gvP ∧ But v.S v.v w'
    clear good bad hq hb
    go_enter Try.func108, Try.ntmps108
    go_wp2_with fail
    go_quiet ((go_at_call 119; exact (P.out _).mono fun _ _ h => ⟨h.1, _, h.2.symm⟩))
    go_wp2_with fail
    refine (must_no _ _).mono ?_
    rintro e w2 ⟨rfl, rfl⟩
    go_wp2_with fail
    exact ⟨rfl, rfl, But.drewN Hv.out _⟩
  | some z =>
    obtain ⟨x, y, hx, hy, rfl, h2⟩ := good z hq
    have P := hide fun W hW => at_ok A n k i xs W hW (by have := Hi.out; omega) (by unfold maxLen; omega) x y hx hy
    have HR := hide (hb.rd Hv.out)
    have hx8 := x.toNat_lt
    have hy8 := y.toNat_lt
    obtain ⟨X, hX⟩ : ∃ X, 256 * x.toNat + y.toNat = X := ⟨_, rfl⟩
    have HX := hide (show (256 * (x.toNat : Int) + (y.toNat : Int)) = (X : Int) by omega)
    rw [hX]
    show Calls _ _ _ _ fun e w' => e = .returned (.int .i64 (X : Int)) ∧ RrS v xs A n k g (ys.drop 2) w' ∧ But (fun i => i = g) w w'
    clear good bad hq hb hx hy hX hx8 hy8
    go_enter Try.func108, Try.ntmps108
    go_wp2_with fail
    go_quiet ((go_at_call 119; exact Calls.quiet_of (P.out _ (HR.out.drewN _))))
    rw [HX.out]
    go_wp2_with fail
    refine (must_ok _ _).mono ?_
    rintro e w2 ⟨rfl, rfl⟩
    go_wp2_with fail
    go_ret
    exact ⟨rfl, RrS.goes (HB.out.drewN nq) Hi.out Hd.out hg (But.drewN Hv.out nq) (Hb.out.drewN nq) 2 h2 _ rfl⟩

/-- What stands two bytes on. -/
theorem qW_at {xs ys : List UInt8} {i : Nat} (hd : xs.drop i = ys) {z : Nat × List UInt8} (e : qW ys = some z) : ∃ x y : UInt8, xs[i]? = some x ∧ xs[i + 1]? = some y ∧ z = (256 * x.toNat + y.toNat, ys.drop 2) ∧ 2 ≤ ys.length := by
  match ys, e, hd with
  | x :: y :: t, e, hd =>
    injection e with e
    have h0 := congrArg (fun l => l[0]?) hd
    have h1 := congrArg (fun l => l[1]?) hd
    exact ⟨x, y, by simpa using h0, by simpa using h1, e.symm, by simp⟩
theorem qW_no {ys : List UInt8} (e : qW ys = none) : ys.length < 2 := by
  match ys, e with
  | [], _ => simp
  | [c], _ => simp

set_option maxRecDepth 100000 in
theorem rrText_any (v : Bs) (xs : List UInt8) (A : Option Addr) (n k g : Nat) (ys : List UInt8) (w : World) (hb : RrB v xs A n k) (h : RrS v xs A n k g ys w) : Calls Try.prog 117 #[.pointer (some ⟨g, 0, none⟩)] w (RrPost v xs A n k g (qT ys) (fun s => .string (str s)) w) := by
  obtain ⟨i, hB, hi, hd, hg, hv⟩ := h
  have c0 := hB.cell 0
  have c1 := hB.cell 1
  simp only [List.getElem?_cons_zero, List.getElem?_cons_succ] at c0 c1
  have h65 := hb.2.2.1
  have hnk := hb.2.1
  have HB := hide (hB : Blk w g 94 [.slice A n k, .int .i64 (i : Int)])
  have Hv := hide hv
  have Hd := hide hd
  have Hi := hide hi
  have Hb := hide (But.refl (fun i => i = g) w)
  have f1 := hB.frozen 1
  have hib : (i : Int) ≤ 65535 := by omega
  have HR := hide (hb.rd hv)
  have HQ := hide (show ∀ z, qW ys = some z → qT ys = if z.2.length < z.1 then none else some (z.2.take z.1, z.2.drop z.1) from fun z e => by unfold qT; rw [e])
  have HN := hide (show qW ys = none → qT ys = none from fun e => by unfold qT; rw [e])
  clear hB hv hb
  cases hq : qW ys with
  | none =>
    rw [HN.out hq]
    have h2 := qW_no hq
    have P := hide fun W => textAt_more A n k (i : Int) W (by omega) (by omega) (by unfold maxLen; omega)
    show Calls _ _ _ _ fun e w' => e = .panicked gvP ∧ But v.S v.v w'
    clear hq hd hi
    go_enter Try.func117, Try.ntmps117
    go_wp2_with fail
    go_quiet ((go_at_call 121; exact (P.out _).mono fun _ _ h => ⟨h.1, _, h.2.symm⟩))
    go_wp2_with fail
    refine (must_no _ _).mono ?_
    rintro e w2 ⟨rfl, rfl⟩
    go_wp2_with fail
    exact ⟨rfl, rfl, But.drewN Hv.out _⟩
  | some z =>
    rw [HQ.out z hq]
    obtain ⟨x, y, hx, hy, rfl, h2⟩ := qW_at hd hq
    obtain ⟨m, hm⟩ : ∃ m, 256 * x.toNat + y.toNat = m := ⟨_, rfl⟩
    simp only [hm, List.length_drop]
    by_cases hl : ys.length - 2 < m
    · rw [if_pos hl]
      have P := hide fun W hW => textAt_short A n k i xs W hW (by omega) (by omega) x y hx hy (by omega)
      show Calls _ _ _ _ fun e w' => e = .panicked gvP ∧ But v.S v.v w'
      clear hq hd hi hx hy hm
      go_enter Try.func117, Try.ntmps117
      go_wp2_with fail
      go_quiet ((go_at_call 121; exact Calls.quiet_of (P.out _ (HR.out.drewN _))))
      go_wp2_with fail
      refine (must_no _ _).mono ?_
      rintro e w2 ⟨rfl, rfl⟩
      go_wp2_with fail
      exact ⟨rfl, rfl, But.drewN Hv.out _⟩
    · rw [if_neg hl]
      have P := hide fun W hW => textAt_ok A n k i m xs W hW hnk (by omega) (by omega) x y hx hy hm
      have e2 : ys.drop 2 = xs.drop (i + 2) := by rw [← hd, List.drop_drop]
      have e3 : (ys.drop 2).drop m = ys.drop (2 + m) := by rw [List.drop_drop]
      rw [e3, e2]
      obtain ⟨S, hS⟩ : ∃ S, (xs.drop (i + 2)).take m = S := ⟨_, rfl⟩
      rw [hS] at P ⊢
      show Calls _ _ _ _ fun e w' => e = .returned (.string (str S)) ∧ RrS v xs A n k g (ys.drop (2 + m)) w' ∧ But (fun i => i = g) w w'
      have hj : 2 + m ≤ ys.length := by omega
      have Hj := hide hj
      obtain ⟨N, hN⟩ : ∃ N, i + 2 + m = N := ⟨_, rfl⟩
      rw [hN] at P
      have HN2 := hide hN
      clear hq hd hi hx hy hm e2 e3 hS hl hj hN
      go_enter Try.func117, Try.ntmps117
      go_wp2_with fail
      go_quiet ((go_at_call 121; exact Calls.quiet_of (P.out _ (HR.out.drewN _))))
      go_wp2_with fail
      refine (must_ok _ _).mono ?_
      rintro e w2 ⟨rfl, rfl⟩
      go_wp2_with fail
      go_ret
      exact ⟨rfl, RrS.goes (HB.out.drewN nq) Hi.out Hd.out hg (But.drewN Hv.out nq) (Hb.out.drewN nq) (2 + m) Hj.out _ (by have := HN2.out; omega)⟩

set_option maxRecDepth 100000 in
theorem rrRest_any (v : Bs) (xs : List UInt8) (A : Option Addr) (n k g : Nat) (ys : List UInt8) (w : World) (hb : RrB v xs A n k) (h : RrS v xs A n k g ys w) : Calls Try.prog 118 #[.pointer (some ⟨g, 0, none⟩)] w fun e w' => e = .returned (.string (str ys)) ∧ RrS v xs A n k g [] w' ∧ But (fun i => i = g) w w' := by
  obtain ⟨i, hB, hi, hd, hg, hv⟩ := h
  have c0 := hB.cell 0
  have c1 := hB.cell 1
  simp only [List.getElem?_cons_zero, List.getElem?_cons_succ] at c0 c1
  have h65 := hb.2.2.1
  have hnk := hb.2.1
  have f1 := hB.frozen 1
  have hin : (i : Int) ≤ (n : Int) := by omega
  have hR := hb.rd hv
  have r2 := hR.tail i k (by omega) hnk
  rw [bv_drop, hd] at r2
  have hsl := fun W => run_slTail (P := Try.prog) 31 5 Try.underlying31 u8_size A n k (i : Int) i rfl (by omega) W
  have hcs := fun q => rdStr (r2.drewN q) (k - i)
  have HB := hide hB
  have Hv := hide hv
  have Hd := hide hd
  have Hi := hide hi
  have Hb := hide (But.refl (fun i => i = g) w)
  clear hB hi hd hv hR r2 hb
  go_enter Try.func118, Try.ntmps118
  go_wp2_with fail
  go_quiet (fail)
  go_wp2_with fail
  go_ret
  have hl : ys.length ≤ ys.length := Nat.le_refl _
  have := RrS.goes (HB.out.drewN nq) Hi.out Hd.out hg (But.drewN Hv.out nq) (Hb.out.drewN nq) ys.length hl (n : Int) (by have := Hi.out; omega)
  rw [List.drop_length] at this
  exact ⟨rfl, this⟩

end Go.Proofs.Ytdlhcecmodefkaa

namespace Go.Proofs.Ytdlhcecmodefkaa
set_option linter.unusedVariables false
set_option linter.unusedSimpArgs false
open Go.RowKit

def lenQ (xs : List UInt8) : Option (Nat × List UInt8) := if (atR xs 1).2.2 = 0 then some ((atR xs 1).1, xs.drop (atR xs 1).2.1) else none

set_option maxRecDepth 100000 in
theorem rrLen_any (v : Bs) (xs : List UInt8) (A : Option Addr) (n k g : Nat) (w : World) (hb : RrB v xs A n k) (h0 : 1 ≤ n) (h : RrS v xs A n k g (xs.drop 1) w) : Calls Try.prog 91 #[.pointer (some ⟨g, 0, none⟩)] w (RrPost v xs A n k g (lenQ xs) (fun c => .int .i64 (c : Int)) w) := by
  obtain ⟨i, hB, hi, hd, hg, hv⟩ := h
  have hxl := hb.1
  obtain rfl : i = 1 := by rw [List.length_drop] at hi; omega
  have c0 := hB.cell 0
  have c1 := hB.cell 1
  simp only [List.getElem?_cons_zero, List.getElem?_cons_succ] at c0 c1
  have h65 := hb.2.2.1
  have hnk := hb.2.1
  have Hv := hide hv
  have P := hide fun W (hW : Rd W A n (bv xs)) => show Calls Try.prog 104 #[.slice A n k, .int .i64 1] W _ from vat_any A n k 1 xs W hW hnk (by unfold maxLen; omega) hxl
  have HR := hide (hb.rd hv)
  have HB := hide hB
  have HA := hide (atR_putQ xs 1)
  have HX := hide hxl
  unfold lenQ
  generalize atR xs 1 = r at *
  obtain ⟨x, y, z⟩ := r
  simp only at P HA ⊢
  clear hi hd hB hv hb hxl
  by_cases hz : z = 0
  · subst hz
    rw [if_pos rfl]
    obtain ⟨j, _, _, hj1, hj2, _, _⟩ := HA.out rfl
    subst hj2
    show Calls _ _ _ _ fun e w' => e = .returned (.int .i64 (x : Int)) ∧ RrS v xs A n k g (xs.drop (1 + j)) w' ∧ But (fun i => i = g) w w'
    go_enter Try.func91, Try.ntmps91
    go_wp2_with fail
    refine wp_region_held_drew (S := fun W => W.cell? ⟨g, 0, none⟩ = some (.slice A n k) ∧ W.cell? ⟨g, 1, none⟩ = some (.int .i64 1)) (by kernel_rfl) ?_ (fun hHeld => ?_)
    · exact ⟨c0, c1⟩
    refine wpAnyH_take (i := 0) (oi := { dst := some 7, op := _, type := _, pos := _, after := _, guard := _ }) (v := ?v1x1) rfl (by kernel_rfl) (by kernel_rfl) (by kernel_rfl) (fun _ _ _ h => h) (Or.inl ⟨by rfl, ?hy1x1⟩) hHeld ?rest1x1
    case hy1x1 => (intro w hSw; go_simp <;> with_reducible rfl)
    try simp only [Act.put, List.setIfInBounds_toArray, List.set_cons_zero, List.set_cons_succ]
    refine wpAnyH_take (i := 1) (oi := { dst := some 8, op := _, type := _, pos := _, after := _, guard := _ }) (v := ?v1x2) rfl (by kernel_rfl) (by kernel_rfl) (by kernel_rfl) (fun _ _ _ h => h) (Or.inl ⟨by rfl, ?hy1x2⟩) hHeld ?rest1x2
    case hy1x2 => (intro w hSw; go_simp <;> with_reducible rfl)
    try simp only [Act.put, List.setIfInBounds_toArray, List.set_cons_zero, List.set_cons_succ]
    refine wpAnyH_take (i := 2) (oi := { dst := some 9, op := _, type := _, pos := _, after := _, guard := _ }) (v := ?v1x3) rfl (by kernel_rfl) (by kernel_rfl) (by kernel_rfl) (fun _ _ _ h => h) (Or.inl ⟨by rfl, ?hy1x3⟩) hHeld ?rest1x3
    case hy1x3 => (intro w hSw; go_simp <;> with_reducible rfl)
    try simp only [Act.put, List.setIfInBounds_toArray, List.set_cons_zero, List.set_cons_succ]
    refine wpAnyH_take (i := 3) (oi := { dst := some 10, op := _, type := _, pos := _, after := _, guard := _ }) (v := ?v1x4) rfl (by kernel_rfl) (by kernel_rfl) (by kernel_rfl) (fun _ _ _ h => h) (Or.inl ⟨by rfl, ?hy1x4⟩) hHeld ?rest1x4
    case hy1x4 => (intro w hSw; go_simp <;> with_reducible rfl)
    try simp only [Act.put, List.setIfInBounds_toArray, List.set_cons_zero, List.set_cons_succ]
    refine wpAnyH_take (i := 4) (oi := { dst := some 11, op := _, type := _, pos := _, after := _, guard := _ }) (v := ?v1x5) rfl (by kernel_rfl) (by kernel_rfl) (by kernel_rfl) (fun _ _ _ h => h) (Or.inl ⟨by rfl, ?hy1x5⟩) hHeld ?rest1x5
    case hy1x5 => (intro w hSw; go_simp <;> with_reducible rfl)
    try simp only [Act.put, List.setIfInBounds_toArray, List.set_cons_zero, List.set_cons_succ]
    refine wpAnyH_take (i := 5) (oi := { dst := some 12, op := _, type := _, pos := _, after := _, guard := _ }) (v := ?v1x6) rfl (by kernel_rfl) (by kernel_rfl) (by kernel_rfl) (fun _ _ _ h => h) (Or.inl ⟨by rfl, ?hy1x6⟩) hHeld ?rest1x6
    case hy1x6 => (intro w hSw; go_simp <;> with_reducible rfl)
    try simp only [Act.put, List.setIfInBounds_toArray, List.set_cons_zero, List.set_cons_succ]
    refine wpAnyH_take (i := 6) (oi := { dst := some 13, op := _, type := _, pos := _, after := _, guard := _ }) (v := ?v1x7) rfl (by kernel_rfl) (by kernel_rfl) (by kernel_rfl) (fun _ _ _ h => h) (Or.inl ⟨by rfl, ?hy1x7⟩) hHeld ?rest1x7
    case hy1x7 => (intro w hSw; go_simp <;> with_reducible rfl)
    try simp only [Act.put, List.setIfInBounds_toArray, List.set_cons_zero, List.set_cons_succ]
    refine wpAnyH_take (i := 7) (oi := { dst := some 14, op := _, type := _, pos := _, after := _, guard := _ }) (v := ?v1x8) rfl (by kernel_rfl) (by kernel_rfl) (by kernel_rfl) (fun _ _ _ h => h) (Or.inl ⟨by rfl, ?hy1x8⟩) hHeld ?rest1x8
    case hy1x8 => (intro w hSw; go_simp <;> with_reducible rfl)
    try simp only [Act.put, List.setIfInBounds_toArray, List.set_cons_zero, List.set_cons_succ]
    refine wpAnyH_ready (rs := [8]) (by kernel_rfl) (by simp) (AllReadyH.cons (o := { dst := some 15, op := _, type := _, pos := _, after := _, guard := _ }) rfl (fun K hK => ?_) AllReadyH.nil)
    go_simp
    refine (P.out _ (HR.out.drewN 1)).mono ?_
    rintro e w1 ⟨rfl, b1⟩
    replace b1 : Below w.heap.size w w1 := below_unN (n := 1) b1
    have HB1 := hide (HB.out.keep b1)
    have Hv1 := hide (But.on Hv.out b1)
    have Hb1 := hide (But.ofBelow b1 (fun i => i = g))
    go_wp2_with fail
    refine hK.out _ _ ?_ (fun hHeld => ?_)
    · exact ⟨HB1.out.cell 0, HB1.out.cell 1⟩
    clear hK K
    try simp only [Act.put, List.setIfInBounds_toArray, List.set_cons_zero, List.set_cons_succ]
    refine wpAnyH_take (i := 9) (oi := { dst := some 6, op := _, type := _, pos := _, after := _, guard := _ }) (v := ?v1x10) rfl (by kernel_rfl) (by kernel_rfl) (by kernel_rfl) (fun _ _ _ h => h) (Or.inl ⟨by rfl, ?hy1x10⟩) hHeld ?rest1x10
    case hy1x10 => (intro w hSw; go_simp <;> with_reducible rfl)
    try simp only [Act.put, List.setIfInBounds_toArray, List.set_cons_zero, List.set_cons_succ]
    refine wpAnyH_take (i := 10) (oi := { dst := some 16, op := _, type := _, pos := _, after := _, guard := _ }) (v := ?v1x11) rfl (by kernel_rfl) (by kernel_rfl) (by kernel_rfl) (fun _ _ _ h => h) (Or.inl ⟨by rfl, ?hy1x11⟩) hHeld ?rest1x11
    case hy1x11 => (intro w hSw; go_simp <;> with_reducible rfl)
    try simp only [Act.put, List.setIfInBounds_toArray, List.set_cons_zero, List.set_cons_succ]
    refine wpAnyH_take (i := 11) (oi := { dst := some 17, op := _, type := _, pos := _, after := _, guard := _ }) (v := ?v1x12) rfl (by kernel_rfl) (by kernel_rfl) (by kernel_rfl) (fun _ _ _ h => h) (Or.inl ⟨by rfl, ?hy1x12⟩) hHeld ?rest1x12
    case hy1x12 => (intro w hSw; go_simp <;> with_reducible rfl)
    try simp only [Act.put, List.setIfInBounds_toArray, List.set_cons_zero, List.set_cons_succ]
    refine wpAnyH_take (i := 12) (oi := { dst := some 18, op := _, type := _, pos := _, after := _, guard := _ }) (v := ?v1x13) rfl (by kernel_rfl) (by kernel_rfl) (by kernel_rfl) (fun _ _ _ h => h) (Or.inl ⟨by rfl, ?hy1x13⟩) hHeld ?rest1x13
    case hy1x13 => (intro w hSw; go_simp <;> with_reducible rfl)
    try simp only [Act.put, List.setIfInBounds_toArray, List.set_cons_zero, List.set_cons_succ]
    refine wpAnyH_take (i := 13) (oi := { dst := some 3, op := _, type := _, pos := _, after := _, guard := _ }) (v := ?v1x14) rfl (by kernel_rfl) (by kernel_rfl) (by kernel_rfl) (fun _ _ _ h => h) (Or.inl ⟨by rfl, ?hy1x14⟩) hHeld ?rest1x14
    case hy1x14 => (intro w hSw; go_simp <;> with_reducible rfl)
    try simp only [Act.put, List.setIfInBounds_toArray, List.set_cons_zero, List.set_cons_succ]
    refine wpAnyH_take (i := 14) (oi := { dst := some 4, op := _, type := _, pos := _, after := _, guard := _ }) (v := ?v1x15) rfl (by kernel_rfl) (by kernel_rfl) (by kernel_rfl) (fun _ _ _ h => h) (Or.inl ⟨by rfl, ?hy1x15⟩) hHeld ?rest1x15
    case hy1x15 => (intro w hSw; go_simp <;> with_reducible rfl)
    try simp only [Act.put, List.setIfInBounds_toArray, List.set_cons_zero, List.set_cons_succ]
    refine wpAnyH_take (i := 15) (oi := { dst := some 5, op := _, type := _, pos := _, after := _, guard := _ }) (v := ?v1x16) rfl (by kernel_rfl) (by kernel_rfl) (by kernel_rfl) (fun _ _ _ h => h) (Or.inl ⟨by rfl, ?hy1x16⟩) hHeld ?rest1x16
    case hy1x16 => (intro w hSw; go_simp <;> with_reducible rfl)
    try simp only [Act.put, List.setIfInBounds_toArray, List.set_cons_zero, List.set_cons_succ]
    refine wpAnyH_done (by kernel_rfl) ?_ _
    go_wp2_with fail
    refine (must_ok _ _).mono ?_
    rintro e w2 ⟨rfl, rfl⟩
    have c1 := HB1.out.cell 1
    simp only [List.getElem?_cons_zero, List.getElem?_cons_succ] at c1
    have f1 := HB1.out.frozen 1
    go_wp2_with fail
    go_ret
    have := RrS.goes (v := v) (ys := xs.drop 1) HB1.out (by rw [List.length_drop, HX.out]; omega) rfl hg Hv1.out Hb1.out j (by rw [List.length_drop, HX.out]; have := HX.out; omega) ((1 + j : Nat) : Int) (by omega)
    rw [List.drop_drop] at this
    exact ⟨rfl, this⟩
  · rw [if_neg hz]
    show Calls _ _ _ _ fun e w' => e = .panicked gvP ∧ But v.S v.v w'
    have q : ((z : Int) == 0) = false := by simpa using hz
    go_enter Try.func91, Try.ntmps91
    go_wp2_with fail
    refine wp_region_held_drew (S := fun W => W.cell? ⟨g, 0, none⟩ = some (.slice A n k) ∧ W.cell? ⟨g, 1, none⟩ = some (.int .i64 1)) (by kernel_rfl) ?_ (fun hHeld => ?_)
    · exact ⟨c0, c1⟩
    refine wpAnyH_take (i := 0) (oi := { dst := some 7, op := _, type := _, pos := _, after := _, guard := _ }) (v := ?v2x1) rfl (by kernel_rfl) (by kernel_rfl) (by kernel_rfl) (fun _ _ _ h => h) (Or.inl ⟨by rfl, ?hy2x1⟩) hHeld ?rest2x1
    case hy2x1 => (intro w hSw; go_simp <;> with_reducible rfl)
    try simp only [Act.put, List.setIfInBounds_toArray, List.set_cons_zero, List.set_cons_succ]
    refine wpAnyH_take (i := 1) (oi := { dst := some 8, op := _, type := _, pos := _, after := _, guard := _ }) (v := ?v2x2) rfl (by kernel_rfl) (by kernel_rfl) (by kernel_rfl) (fun _ _ _ h => h) (Or.inl ⟨by rfl, ?hy2x2⟩) hHeld ?rest2x2
    case hy2x2 => (intro w hSw; go_simp <;> with_reducible rfl)
    try simp only [Act.put, List.setIfInBounds_toArray, List.set_cons_zero, List.set_cons_succ]
    refine wpAnyH_take (i := 2) (oi := { dst := some 9, op := _, type := _, pos := _, after := _, guard := _ }) (v := ?v2x3) rfl (by kernel_rfl) (by kernel_rfl) (by kernel_rfl) (fun _ _ _ h => h) (Or.inl ⟨by rfl, ?hy2x3⟩) hHeld ?rest2x3
    case hy2x3 => (intro w hSw; go_simp <;> with_reducible rfl)
    try simp only [Act.put, List.setIfInBounds_toArray, List.set_cons_zero, List.set_cons_succ]
    refine wpAnyH_take (i := 3) (oi := { dst := some 10, op := _, type := _, pos := _, after := _, guard := _ }) (v := ?v2x4) rfl (by kernel_rfl) (by kernel_rfl) (by kernel_rfl) (fun _ _ _ h => h) (Or.inl ⟨by rfl, ?hy2x4⟩) hHeld ?rest2x4
    case hy2x4 => (intro w hSw; go_simp <;> with_reducible rfl)
    try simp only [Act.put, List.setIfInBounds_toArray, List.set_cons_zero, List.set_cons_succ]
    refine wpAnyH_take (i := 4) (oi := { dst := some 11, op := _, type := _, pos := _, after := _, guard := _ }) (v := ?v2x5) rfl (by kernel_rfl) (by kernel_rfl) (by kernel_rfl) (fun _ _ _ h => h) (Or.inl ⟨by rfl, ?hy2x5⟩) hHeld ?rest2x5
    case hy2x5 => (intro w hSw; go_simp <;> with_reducible rfl)
    try simp only [Act.put, List.setIfInBounds_toArray, List.set_cons_zero, List.set_cons_succ]
    refine wpAnyH_take (i := 5) (oi := { dst := some 12, op := _, type := _, pos := _, after := _, guard := _ }) (v := ?v2x6) rfl (by kernel_rfl) (by kernel_rfl) (by kernel_rfl) (fun _ _ _ h => h) (Or.inl ⟨by rfl, ?hy2x6⟩) hHeld ?rest2x6
    case hy2x6 => (intro w hSw; go_simp <;> with_reducible rfl)
    try simp only [Act.put, List.setIfInBounds_toArray, List.set_cons_zero, List.set_cons_succ]
    refine wpAnyH_take (i := 6) (oi := { dst := some 13, op := _, type := _, pos := _, after := _, guard := _ }) (v := ?v2x7) rfl (by kernel_rfl) (by kernel_rfl) (by kernel_rfl) (fun _ _ _ h => h) (Or.inl ⟨by rfl, ?hy2x7⟩) hHeld ?rest2x7
    case hy2x7 => (intro w hSw; go_simp <;> with_reducible rfl)
    try simp only [Act.put, List.setIfInBounds_toArray, List.set_cons_zero, List.set_cons_succ]
    refine wpAnyH_take (i := 7) (oi := { dst := some 14, op := _, type := _, pos := _, after := _, guard := _ }) (v := ?v2x8) rfl (by kernel_rfl) (by kernel_rfl) (by kernel_rfl) (fun _ _ _ h => h) (Or.inl ⟨by rfl, ?hy2x8⟩) hHeld ?rest2x8
    case hy2x8 => (intro w hSw; go_simp <;> with_reducible rfl)
    try simp only [Act.put, List.setIfInBounds_toArray, List.set_cons_zero, List.set_cons_succ]
    refine wpAnyH_ready (rs := [8]) (by kernel_rfl) (by simp) (AllReadyH.cons (o := { dst := some 15, op := _, type := _, pos := _, after := _, guard := _ }) rfl (fun K hK => ?_) AllReadyH.nil)
    go_simp
    refine (P.out _ (HR.out.drewN 1)).mono ?_
    rintro e w1 ⟨rfl, b1⟩
    replace b1 : Below w.heap.size w w1 := below_unN (n := 1) b1
    have HB1 := hide (HB.out.keep b1)
    have Hv1 := hide (But.on Hv.out b1)
    have Hb1 := hide (But.ofBelow b1 (fun i => i = g))
    go_wp2_with fail
    refine hK.out _ _ ?_ (fun hHeld => ?_)
    · exact ⟨HB1.out.cell 0, HB1.out.cell 1⟩
    clear hK K
    try simp only [Act.put, List.setIfInBounds_toArray, List.set_cons_zero, List.set_cons_succ]
    refine wpAnyH_take (i := 9) (oi := { dst := some 6, op := _, type := _, pos := _, after := _, guard := _ }) (v := ?v2x10) rfl (by kernel_rfl) (by kernel_rfl) (by kernel_rfl) (fun _ _ _ h => h) (Or.inl ⟨by rfl, ?hy2x10⟩) hHeld ?rest2x10
    case hy2x10 => (intro w hSw; go_simp <;> with_reducible rfl)
    try simp only [Act.put, List.setIfInBounds_toArray, List.set_cons_zero, List.set_cons_succ]
    refine wpAnyH_take (i := 10) (oi := { dst := some 16, op := _, type := _, pos := _, after := _, guard := _ }) (v := ?v2x11) rfl (by kernel_rfl) (by kernel_rfl) (by kernel_rfl) (fun _ _ _ h => h) (Or.inl ⟨by rfl, ?hy2x11⟩) hHeld ?rest2x11
    case hy2x11 => (intro w hSw; go_simp <;> with_reducible rfl)
    try simp only [Act.put, List.setIfInBounds_toArray, List.set_cons_zero, List.set_cons_succ]
    refine wpAnyH_take (i := 11) (oi := { dst := some 17, op := _, type := _, pos := _, after := _, guard := _ }) (v := ?v2x12) rfl (by kernel_rfl) (by kernel_rfl) (by kernel_rfl) (fun _ _ _ h => h) (Or.inl ⟨by rfl, ?hy2x12⟩) hHeld ?rest2x12
    case hy2x12 => (intro w hSw; go_simp <;> with_reducible rfl)
    try simp only [Act.put, List.setIfInBounds_toArray, List.set_cons_zero, List.set_cons_succ]
    refine wpAnyH_take (i := 12) (oi := { dst := some 18, op := _, type := _, pos := _, after := _, guard := _ }) (v := ?v2x13) rfl (by kernel_rfl) (by kernel_rfl) (by kernel_rfl) (fun _ _ _ h => h) (Or.inl ⟨by rfl, ?hy2x13⟩) hHeld ?rest2x13
    case hy2x13 => (intro w hSw; go_simp <;> with_reducible rfl)
    try simp only [Act.put, List.setIfInBounds_toArray, List.set_cons_zero, List.set_cons_succ]
    refine wpAnyH_take (i := 13) (oi := { dst := some 3, op := _, type := _, pos := _, after := _, guard := _ }) (v := ?v2x14) rfl (by kernel_rfl) (by kernel_rfl) (by kernel_rfl) (fun _ _ _ h => h) (Or.inl ⟨by rfl, ?hy2x14⟩) hHeld ?rest2x14
    case hy2x14 => (intro w hSw; go_simp <;> with_reducible rfl)
    try simp only [Act.put, List.setIfInBounds_toArray, List.set_cons_zero, List.set_cons_succ]
    refine wpAnyH_take (i := 14) (oi := { dst := some 4, op := _, type := _, pos := _, after := _, guard := _ }) (v := ?v2x15) rfl (by kernel_rfl) (by kernel_rfl) (by kernel_rfl) (fun _ _ _ h => h) (Or.inl ⟨by rfl, ?hy2x15⟩) hHeld ?rest2x15
    case hy2x15 => (intro w hSw; go_simp <;> with_reducible rfl)
    try simp only [Act.put, List.setIfInBounds_toArray, List.set_cons_zero, List.set_cons_succ]
    refine wpAnyH_take (i := 15) (oi := { dst := some 5, op := _, type := _, pos := _, after := _, guard := _ }) (v := ?v2x16) rfl (by kernel_rfl) (by kernel_rfl) (by kernel_rfl) (fun _ _ _ h => h) (Or.inl ⟨by rfl, ?hy2x16⟩) hHeld ?rest2x16
    case hy2x16 => (intro w hSw; go_simp <;> with_reducible rfl)
    try simp only [Act.put, List.setIfInBounds_toArray, List.set_cons_zero, List.set_cons_succ]
    refine wpAnyH_done (by kernel_rfl) ?_ _
    go_wp2_with fail
    refine (must_no _ _).mono ?_
    rintro e w2 ⟨rfl, rfl⟩
    go_wp2_with fail
    exact ⟨rfl, rfl, Hv1.out⟩

end Go.Proofs.Ytdlhcecmodefkaa

namespace Go.Proofs.Ytdlhcecmodefkaa
set_option linter.unusedVariables false
set_option linter.unusedSimpArgs false
open Go.RowKit

/-- What the reading of fields into the packet in block gp comes to. -/
def FPost (v : Bs) (xs : List UInt8) (A : Option Addr) (n k g gp : Nat) (o : Option (Pk × List UInt8)) (e : Ending) (w' : World) : Prop := match o with
  | none => e = .panicked gvP ∧ But v.S v.v w'
  | some z => e = .returned (.tuple #[]) ∧ RrS v xs A n k g z.2 w' ∧ ∃ C nc kc S ns ks, Blk w' gp 27 (pkVs z.1 C nc kc S ns ks) ∧ NewAt v.v C ∧ NewAt v.v S ∧ PkM w' z.1 C nc kc S ns ks
/-- A packet that is read into. -/
def PkZ (w : World) (gp : Nat) (p : Pk) : Prop := Blk w gp 27 (pkVs p none 0 0 none 0 0)
theorem PkZ.but {w w' : World} {g gp : Nat} {p : Pk} (h : PkZ w gp p) (b : But (fun i => i = g) w w') (hne : ¬ gp = g) : PkZ w' gp p := (b.block gp h.lt hne).trans h
theorem RrS.other {v : Bs} {w w' : World} {xs : List UInt8} {A : Option Addr} {n k g gp : Nat} {ys : List UInt8} (h : RrS v xs A n k g ys w) (b : But (fun i => i = gp) w w') (hne : ¬ gp = g) (hvp : v.S gp) : RrS v xs A n k g ys w' := by
  obtain ⟨i, hB, hi, hd, hg, hv⟩ := h
  exact ⟨i, (b.block g hB.lt (fun e => hne e.symm)).trans hB, hi, hd, hg, hv.trans b (fun i _ e => by rw [e]; exact hvp)⟩
theorem PkZ.frozen {w : World} {gp : Nat} {p : Pk} (h : PkZ w gp p) (i : Nat) : w.frozen? ⟨gp, i, none⟩ = false := Blk.frozen h i

theorem RrS.keep {v : Bs} {w w' : World} {xs : List UInt8} {A : Option Addr} {n k g : Nat} {ys : List UInt8} (h : RrS v xs A n k g ys w) (b : Below w.heap.size w w') : RrS v xs A n k g ys w' := by
  obtain ⟨i, hB, hi, hd, hg, hv⟩ := h
  exact ⟨i, hB.keep b, hi, hd, hg, But.on hv b⟩
theorem RrPost.ok {α : Type} {f : FuncId} {args : Array Value} {w0 : World} {v : Bs} {xs : List UInt8} {A : Option Addr} {n k g : Nat} {o : Option (α × List UInt8)} {val : α → Value} {w : World} (h : Calls Try.prog f args w0 (RrPost v xs A n k g o val w)) {x : α} {t : List UInt8} (hq : o = some (x, t)) : Calls Try.prog f args w0 fun e w' => e = .returned (val x) ∧ RrS v xs A n k g t w' ∧ But (fun i => i = g) w w' := by
  rw [hq] at h
  exact h
theorem RrPost.no {α : Type} {f : FuncId} {args : Array Value} {w0 : World} {v : Bs} {xs : List UInt8} {A : Option Addr} {n k g : Nat} {o : Option (α × List UInt8)} {val : α → Value} {w : World} (h : Calls Try.prog f args w0 (RrPost v xs A n k g o val w)) (hq : o = none) : Calls Try.prog f args w0 fun e w' => e = .panicked gvP ∧ But v.S v.v w' := by
  rw [hq] at h
  exact h
theorem RrS.low {v : Bs} {w : World} {xs : List UInt8} {A : Option Addr} {n k g : Nat} {ys : List UInt8} (h : RrS v xs A n k g ys w) : But v.S v.v w := by
  obtain ⟨i, -, -, -, -, hv⟩ := h
  exact hv
theorem decF {a b : Int} (h : ¬ a ≤ b) : decide (a ≤ b) = false := decide_eq_false h

set_option maxRecDepth 100000 in
set_option maxHeartbeats 1000000 in
theorem rrWelcome_any (v : Bs) (xs : List UInt8) (A : Option Addr) (n k g gp : Nat) (ys : List UInt8) (w : World) (hb : RrB v xs A n k) (h : RrS v xs A n k g ys w) (hp : PkZ w gp (zeroP 2)) (hne : ¬ gp = g) (hvp : v.S gp) : Calls Try.prog 106 #[.pointer (some ⟨g, 0, none⟩), .pointer (some ⟨gp, 0, none⟩)] w (FPost v xs A n k g gp (welQ ys)) := by
  have P1 := rrOctet_any v xs A n k g ys w hb h
  have HP := hide hp
  clear h hp
  unfold welQ
  cases hq1 : qB ys with
  | none =>
    have Q1 := hide (RrPost.no P1 hq1)
    clear P1 hq1
    show Calls _ _ _ _ fun e w' => e = .panicked gvP ∧ But v.S v.v w'
    go_enter Try.func106, Try.ntmps106
    go_wp2_with fail
    refine Q1.out.mono ?_
    rintro e w1 ⟨rfl, hv1⟩
    go_wp2_with fail
    exact ⟨rfl, rfl, hv1⟩
  | some z =>
    obtain ⟨hd, y1⟩ := z
    have Q1 := hide (RrPost.ok P1 hq1)
    clear P1 hq1
    simp only [Option.bind_some]
    by_cases h1 : hd ≤ 1
    · rw [if_pos h1]
      have q1 : (hd : Int) ≤ 1 := by omega
      have P2 := fun W hW => rrOctet_any v xs A n k g y1 W hb hW
      have HD := hide (show ((hd : Int) == 1) = decide (hd = 1) by by_cases e : hd = 1 <;> simp [e] <;> omega)
      cases hq2 : qB y1 with
      | none =>
        have Q2 := fun W hW => hide (RrPost.no (P2 W hW) hq2)
        show Calls _ _ _ _ fun e w' => e = .panicked gvP ∧ But v.S v.v w'
        clear P2 hq2 h1
        go_enter Try.func106, Try.ntmps106
        go_wp2_with fail
        refine Q1.out.mono ?_
        rintro e w1 ⟨rfl, s1, b1⟩
        have HP1 := HP.out.but b1 hne
        have c15 := (Blk.p18 HP1).2.2.2.2.2.2.2.2.2.2.2.2.2.2.2.1
        have f15 := HP1.frozen 15
        have HP1 := hide HP1
        go_wp2_with fail
        refine (must_ok _ _).mono ?_
        rintro e w2 ⟨rfl, rfl⟩
        go_wp2_with fail
        refine (Q2 _ (s1.other (But.setCell _ _ rfl) hne hvp)).out.mono ?_
        rintro e w1 ⟨rfl, hv1⟩
        go_wp2_with fail
        exact ⟨rfl, rfl, hv1⟩
      | some z2 =>
        obtain ⟨c, y2⟩ := z2
        have Q2 := fun W hW => hide (RrPost.ok (P2 W hW) hq2)
        clear P2 hq2 h1
        show Calls _ _ _ _ fun e w' => e = .returned (.tuple #[]) ∧ RrS v xs A n k g y2 w' ∧ ∃ C nc kc S ns ks, Blk w' gp 27 (pkVs { zeroP 2 with present := decide (hd = 1), codes := [(c : Int)] } C nc kc S ns ks) ∧ NewAt v.v C ∧ NewAt v.v S ∧ PkM w' { zeroP 2 with present := decide (hd = 1), codes := [(c : Int)] } C nc kc S ns ks
        go_enter Try.func106, Try.ntmps106
        go_wp2_with fail
        refine Q1.out.mono ?_
        rintro e w1 ⟨rfl, s1, b1⟩
        have HP1 := HP.out.but b1 hne
        have c15 := (Blk.p18 HP1).2.2.2.2.2.2.2.2.2.2.2.2.2.2.2.1
        have f15 := HP1.frozen 15
        have HP1 := hide HP1
        go_wp2_with fail
        refine (must_ok _ _).mono ?_
        rintro e w2 ⟨rfl, rfl⟩
        go_wp2_with fail
        refine (Q2 _ (s1.other (But.setCell _ _ rfl) hne hvp)).out.mono ?_
        rintro e w2 ⟨rfl, s2, b2⟩
        have HP2 := PkZ.but (p := { zeroP 2 with present := decide (hd = 1) }) (show PkZ _ gp _ from by unfold PkZ; rw [← HD.out]; exact Blk.set HP1.out 15 _) b2 hne
        have c16 := (Blk.p18 HP2).2.2.2.2.2.2.2.2.2.2.2.2.2.2.2.2.1
        have f16 := HP2.frozen 16
        have l2 := Blk.lt HP2
        have HP2 := hide HP2
        go_wp2_with fail
        go_end0
        have hsz : ∀ u, (w2.setCell ⟨gp, 16, none⟩ u).heap.size = w2.heap.size := fun u => by simp
        refine ⟨rfl, (s2.other (But.setCell _ _ rfl) hne hvp).keep ((Below.refl _ _).alloc (Nat.le_refl _) _), some ⟨w2.heap.size, 0, none⟩, 1, 1, none, 0, 0, Blk.keep (Blk.set HP2.out 16 _) ((Below.refl _ _).alloc (Nat.le_refl _) _), (fun b o e => by injection e with e; injection e with e1; rw [← e1]; exact s2.low.size), NewAt.nil _, rfl, Nat.le_refl _, ?_, rfl, Nat.le_refl _, Rd.nil _ _⟩
        have := (Blk.new (w2.setCell ⟨gp, 16, none⟩ (.slice (some ⟨w2.heap.size, 0, none⟩) 1 1)) 3 [.int .i64 (c : Int)]).rd
        rw [hsz] at this
        exact this
    · rw [if_neg h1]
      have q1 : decide ((hd : Int) ≤ 1) = false := decF (by omega)
      show Calls _ _ _ _ fun e w' => e = .panicked gvP ∧ But v.S v.v w'
      go_enter Try.func106, Try.ntmps106
      go_wp2_with fail
      refine Q1.out.mono ?_
      rintro e w1 ⟨rfl, s1, b1⟩
      have hv1 := s1.low
      go_wp2_with fail
      refine (must_no _ _).mono ?_
      rintro e w2 ⟨rfl, rfl⟩
      go_wp2_with fail
      exact ⟨rfl, rfl, hv1⟩

end Go.Proofs.Ytdlhcecmodefkaa

namespace Go.Proofs.Ytdlhcecmodefkaa
set_option linter.unusedVariables false
set_option linter.unusedSimpArgs false
open Go.RowKit

theorem and_digN (f W : Nat) (hf : f < 256) (hW : W = 1 ∨ W = 2 ∨ W = 4 ∨ W = 8 ∨ W = 32 ∨ W = 64 ∨ W = 128) : ((f &&& W : Nat) != 0) = digB f W := by
  have h : ∀ W : Fin 129, (W.val = 1 ∨ W.val = 2 ∨ W.val = 4 ∨ W.val = 8 ∨ W.val = 32 ∨ W.val = 64 ∨ W.val = 128) → ∀ f : Fin 256, ((f.val &&& W.val : Nat) != 0) = digB f.val W.val := by decide +kernel
  exact h ⟨W, by omega⟩ hW ⟨f, hf⟩
theorem and_dig (f W : Nat) (hf : f < 256) (hW : W = 1 ∨ W = 2 ∨ W = 4 ∨ W = 8 ∨ W = 32 ∨ W = 64 ∨ W = 128) : (bits .and .i64 (f : Int) (W : Int) != 0) = digB f W := by
  rw [i64_and_nat f W (by omega) (by omega), ← and_digN f W hf hW]
  by_cases h : (f &&& W : Nat) = 0
  · rw [h]; rfl
  · have h2 : ¬ ((f &&& W : Nat) : Int) = 0 := by omega
    rw [bne_iff_ne.2 h, bne_iff_ne.2 h2]

theorem RrS.set {v : Bs} {w : World} {xs : List UInt8} {A : Option Addr} {n k g gp : Nat} {ys : List UInt8} (h : RrS v xs A n k g ys w) (hne : ¬ gp = g) (hvp : v.S gp) (i : Nat) (u : Value) : RrS v xs A n k g ys (w.setCell ⟨gp, i, none⟩ u) := h.other (But.setCell w u rfl) hne hvp

set_option maxRecDepth 100000 in
set_option maxHeartbeats 1000000 in
theorem rrPublish_any (v : Bs) (xs : List UInt8) (A : Option Addr) (n k g gp low : Nat) (ys : List UInt8) (w : World) (hl : low < 16) (hb : RrB v xs A n k) (h : RrS v xs A n k g ys w) (hp : PkZ w gp (zeroP 3)) (hne : ¬ gp = g) (hvp : v.S gp) : Calls Try.prog 107 #[.pointer (some ⟨g, 0, none⟩), .pointer (some ⟨gp, 0, none⟩), .int .i64 (low : Int)] w (FPost v xs A n k g gp (pubQ low ys)) := by
  have HP := hide hp
  have e8 : (bits .and .i64 (low : Int) 8 != 0) = digB low 8 := and_dig low 8 (by omega) (by omega)
  have e1 : (bits .and .i64 (low : Int) 1 != 0) = digB low 1 := and_dig low 1 (by omega) (by omega)
  obtain ⟨q, hq⟩ : ∃ q, low / 2 % 4 = q := ⟨_, rfl⟩
  have e2 : (low : Int) / 2 % 4 = (q : Int) := by omega
  have HS := hide h
  obtain ⟨O, hO⟩ : ∃ O, pubQ low ys = O := ⟨_, rfl⟩
  rw [hO]
  unfold pubQ at hO
  rw [hq] at hO
  clear h hp hq
  generalize digB low 8 = D at *
  generalize digB low 1 = R at *
  have HO := hide hO
  clear hO
  go_enter Try.func107, Try.ntmps107
  have c1 := (Blk.p18 HP.out).2.1
  have c5 := (Blk.p18 HP.out).2.2.2.2.2.1
  have c6 := (Blk.p18 HP.out).2.2.2.2.2.2.1
  have f1 := HP.out.frozen 1
  have f5 := HP.out.frozen 5
  have f6 := HP.out.frozen 6
  go_wp2_with fail
  obtain ⟨U, hU⟩ : ∃ U, (((w.setCell ⟨gp, 1, none⟩ (.bool D)).setCell ⟨gp, 5, none⟩ (.int .i64 (q : Int))).setCell ⟨gp, 6, none⟩ (.bool R)) = U := ⟨_, rfl⟩
  rw [hU]
  have HP := hide (show PkZ U gp { zeroP 3 with dup := D, qos := (q : Int), retain := R } from by rw [← hU]; exact Blk.set (Blk.set (Blk.set HP.out 1 _) 5 _) 6 _)
  have HS := hide (show RrS v xs A n k g ys U from by rw [← hU]; exact ((HS.out.set hne hvp 1 _).set hne hvp 5 _).set hne hvp 6 _)
  clear hU c1 c5 c6 f1 f5 f6 e8 e1 e2
  have P1 := rrText_any v xs A n k g ys U hb HS.out
  cases hq1 : qT ys with
  | none =>
    have h0 : O = none := by rw [← HO.out, hq1]; rfl
    refine (RrPost.no P1 hq1).mono ?_
    rintro e w1 ⟨rfl, hv1⟩
    go_wp2_with fail
    all_goals first | exact ⟨rfl, rfl, hv1⟩ | exact ⟨rfl, by rw [h0]; exact ⟨rfl, hv1⟩⟩
  | some z =>
    obtain ⟨tp, y1⟩ := z
    refine (RrPost.ok P1 hq1).mono ?_
    rintro e w1 ⟨rfl, s1, b1⟩
    have HP := hide (HP.out.but b1 hne)
    have HS := hide s1
    have HQ1 := hide hq1
    clear s1 b1 P1 hq1
    have c3 := (Blk.p18 HP.out).2.2.2.1
    have c5 := (Blk.p18 HP.out).2.2.2.2.2.1
    have f3 := HP.out.frozen 3
    by_cases hq0 : 0 < q
    · have q0 : (q : Int) > 0 := by omega
      go_wp2_with fail
      obtain ⟨U2, hU⟩ : ∃ U2, (w1.setCell ⟨gp, 3, none⟩ (.string (str tp))) = U2 := ⟨_, rfl⟩
      rw [hU]
      have HP := hide (show PkZ U2 gp { zeroP 3 with dup := D, qos := (q : Int), retain := R, topic := tp } from by rw [← hU]; exact Blk.set HP.out 3 _)
      have HS := hide (show RrS v xs A n k g y1 U2 from by rw [← hU]; exact HS.out.set hne hvp 3 _)
      clear hU c3 c5 f3
      have P1 := rrWord_any v xs A n k g y1 U2 hb HS.out
      cases hq1 : qW y1 with
      | none =>
        have h0 : O = none := by rw [← HO.out, HQ1.out]; simp only [Option.bind_some, if_pos hq0]; rw [hq1]; rfl
        refine (RrPost.no P1 hq1).mono ?_
        rintro e w1 ⟨rfl, hv1⟩
        go_wp2_with fail
        all_goals first | exact ⟨rfl, rfl, hv1⟩ | exact ⟨rfl, by rw [h0]; exact ⟨rfl, hv1⟩⟩
      | some z =>
        obtain ⟨d, y2⟩ := z
        refine (RrPost.ok P1 hq1).mono ?_
        rintro e w1 ⟨rfl, s1, b1⟩
        have HP := hide (HP.out.but b1 hne)
        have HS := hide s1
        have h0 : O = some ({ zeroP 3 with dup := D, qos := (q : Int), retain := R, topic := tp, id := (d : Int), payload := y2 }, []) := by rw [← HO.out, HQ1.out]; simp only [Option.bind_some, if_pos hq0]; rw [hq1]; rfl
        clear s1 b1 P1 hq1
        have c2 := (Blk.p18 HP.out).2.2.1
        have f2 := HP.out.frozen 2
        go_wp2_with fail
        obtain ⟨U3, hU⟩ : ∃ U3, (w1.setCell ⟨gp, 2, none⟩ (.int .i64 (d : Int))) = U3 := ⟨_, rfl⟩
        rw [hU]
        have HP := hide (show PkZ U3 gp { zeroP 3 with dup := D, qos := (q : Int), retain := R, topic := tp, id := (d : Int) } from by rw [← hU]; exact Blk.set HP.out 2 _)
        have HS := hide (show RrS v xs A n k g y2 U3 from by rw [← hU]; exact HS.out.set hne hvp 2 _)
        clear hU c2 f2
        refine (rrRest_any v xs A n k g y2 U3 hb HS.out).mono ?_
        rintro e w1 ⟨rfl, s1, b1⟩
        have HP := hide (HP.out.but b1 hne)
        have c4 := (Blk.p18 HP.out).2.2.2.2.1
        have f4 := HP.out.frozen 4
        go_wp2_with fail
        go_end0
        rw [h0]
        exact ⟨rfl, s1.set hne hvp 4 _, none, 0, 0, none, 0, 0, Blk.set HP.out 4 _, NewAt.nil _, NewAt.nil _, rfl, Nat.le_refl _, Rd.nil _ _, rfl, Nat.le_refl _, Rd.nil _ _⟩
    · obtain rfl : q = 0 := by omega
      go_wp2_with fail
      obtain ⟨U2, hU⟩ : ∃ U2, (w1.setCell ⟨gp, 3, none⟩ (.string (str tp))) = U2 := ⟨_, rfl⟩
      rw [hU]
      have HP := hide (show PkZ U2 gp { zeroP 3 with dup := D, qos := ((0 : Nat) : Int), retain := R, topic := tp } from by rw [← hU]; exact Blk.set HP.out 3 _)
      have HS := hide (show RrS v xs A n k g y1 U2 from by rw [← hU]; exact HS.out.set hne hvp 3 _)
      clear hU c3 c5 f3
      have h0 : O = some ({ zeroP 3 with dup := D, qos := ((0 : Nat) : Int), retain := R, topic := tp, id := ((0 : Nat) : Int), payload := y1 }, []) := by rw [← HO.out, HQ1.out]; simp only [Option.bind_some, if_neg (show ¬ 0 < 0 by omega)]
      refine (rrRest_any v xs A n k g y1 U2 hb HS.out).mono ?_
      rintro e w1 ⟨rfl, s1, b1⟩
      have HP := hide (HP.out.but b1 hne)
      have c4 := (Blk.p18 HP.out).2.2.2.2.1
      have f4 := HP.out.frozen 4
      go_wp2_with fail
      go_end0
      rw [h0]
      exact ⟨rfl, s1.set hne hvp 4 _, none, 0, 0, none, 0, 0, Blk.set HP.out 4 _, NewAt.nil _, NewAt.nil _, rfl, Nat.le_refl _, Rd.nil _ _, rfl, Nat.le_refl _, Rd.nil _ _⟩

end Go.Proofs.Ytdlhcecmodefkaa

namespace Go.Proofs.Ytdlhcecmodefkaa
set_option linter.unusedVariables false
set_option linter.unusedSimpArgs false
open Go.RowKit

theorem digFit (f : Nat) (hf : f < 256) : ((f : Int) / 8 % 4) = ((f / 8 % 4 : Nat) : Int) := by omega
/-- A Connect whose byte is f. -/
def conZ (D2 D4 D32 D64 D128 : Bool) (q : Nat) : Pk := ⟨1, false, 0, [], [], (q : Int), D32, [], D2, 0, D4, D128, D64, [], [], false, [], []⟩
/-- What is read behind Alive. -/
def conE (Z : Pk) (D4 D64 D128 : Bool) (ys : List UInt8) : Option (Pk × List UInt8) :=
  (qT ys).bind fun cl => (oT D4 cl.2).bind fun tp => (oT D4 tp.2).bind fun pl => (oT D128 pl.2).bind fun us => (oT D64 us.2).bind fun ps =>
    some ({ Z with topic := tp.1, payload := pl.1, client := cl.1, user := us.1, pass := ps.1 }, ps.2)

theorem oT_true (ys : List UInt8) : oT true ys = qT ys := rfl
theorem oT_false (ys : List UInt8) : oT false ys = some ([], ys) := rfl

set_option maxRecDepth 100000 in
set_option maxHeartbeats 4000000 in
theorem rrConnect_any (v : Bs) (xs : List UInt8) (A : Option Addr) (n k g gp : Nat) (ys : List UInt8) (w : World) (hb : RrB v xs A n k) (h : RrS v xs A n k g ys w) (hp : PkZ w gp (zeroP 1)) (hne : ¬ gp = g) (hvp : v.S gp) : Calls Try.prog 105 #[.pointer (some ⟨g, 0, none⟩), .pointer (some ⟨gp, 0, none⟩)] w (FPost v xs A n k g gp (conQ ys)) := by
  have HP := hide hp
  obtain ⟨O, hO⟩ : ∃ O, conQ ys = O := ⟨_, rfl⟩
  rw [hO]
  unfold conQ at hO
  have HO := hide hO
  have P1 := rrText_any v xs A n k g ys w hb h
  clear h hp hO
  go_enter Try.func105, Try.ntmps105
  go_wp2_with fail
  cases hq1 : qT ys with
  | none =>
    have h0 : O = none := by rw [← HO.out, hq1]; rfl
    refine (RrPost.no P1 hq1).mono ?_
    rintro e w1 ⟨rfl, hv1⟩
    go_wp2_with fail
    all_goals first | exact ⟨rfl, rfl, hv1⟩ | exact ⟨rfl, by rw [h0]; exact ⟨rfl, hv1⟩⟩
  | some z =>
  obtain ⟨s, y1⟩ := z
  rw [hq1] at HO
  simp only [Option.bind_some] at HO
  refine (RrPost.ok P1 hq1).mono ?_
  by_cases hs : s = [77, 81, 84, 84]
  case neg =>
    have h0 : O = none := by rw [← HO.out, if_neg hs]
    have q1 : (s == [77, 81, 84, 84]) = false := by simpa using hs
    rintro e w1 ⟨rfl, s1, b1⟩
    have HP := hide (HP.out.but b1 hne)
    have HS := hide s1
    have hv1 := s1.low
    clear s1 b1
    go_wp2_with fail
    refine (must_no _ _).mono ?_
    rintro e w2 ⟨rfl, rfl⟩
    go_wp2_with fail
    all_goals first | exact ⟨rfl, rfl, hv1⟩ | exact ⟨rfl, by rw [h0]; exact ⟨rfl, hv1⟩⟩
  case pos =>
  subst hs
  rw [if_pos rfl] at HO
  clear P1 hq1
  rintro e w1 ⟨rfl, s1, b1⟩
  have HP := hide (HP.out.but b1 hne)
  have HS := hide s1
  clear s1 b1
  go_wp2_with fail
  refine (must_ok _ _).mono ?_
  rintro e w2 ⟨rfl, rfl⟩
  go_wp2_with fail
  have P1 := rrOctet_any v xs A n k g y1 _ hb HS.out
  cases hq1 : qB y1 with
  | none =>
    have h0 : O = none := by rw [← HO.out, hq1]; rfl
    refine (RrPost.no P1 hq1).mono ?_
    rintro e w1 ⟨rfl, hv1⟩
    go_wp2_with fail
    all_goals first | exact ⟨rfl, rfl, hv1⟩ | exact ⟨rfl, by rw [h0]; exact ⟨rfl, hv1⟩⟩
  | some z =>
  obtain ⟨l, y2⟩ := z
  rw [hq1] at HO
  simp only [Option.bind_some] at HO
  refine (RrPost.ok P1 hq1).mono ?_
  by_cases hl : l = 4
  case neg =>
    have h0 : O = none := by rw [← HO.out, if_neg hl]
    have q1 : ((l : Int) == 4) = false := by simp; omega
    rintro e w1 ⟨rfl, s1, b1⟩
    have HP := hide (HP.out.but b1 hne)
    have HS := hide s1
    have hv1 := s1.low
    clear s1 b1
    go_wp2_with fail
    refine (must_no _ _).mono ?_
    rintro e w2 ⟨rfl, rfl⟩
    go_wp2_with fail
    all_goals first | exact ⟨rfl, rfl, hv1⟩ | exact ⟨rfl, by rw [h0]; exact ⟨rfl, hv1⟩⟩
  case pos =>
  subst hl
  rw [if_pos rfl] at HO
  clear P1 hq1
  rintro e w1 ⟨rfl, s1, b1⟩
  have HP := hide (HP.out.but b1 hne)
  have HS := hide s1
  clear s1 b1
  go_wp2_with fail
  refine (must_ok _ _).mono ?_
  rintro e w2 ⟨rfl, rfl⟩
  go_wp2_with fail
  have P1 := rrOctet_any v xs A n k g y2 _ hb HS.out
  cases hq1 : qB y2 with
  | none =>
    have h0 : O = none := by rw [← HO.out, hq1]; rfl
    refine (RrPost.no P1 hq1).mono ?_
    rintro e w1 ⟨rfl, hv1⟩
    go_wp2_with fail
    all_goals first | exact ⟨rfl, rfl, hv1⟩ | exact ⟨rfl, by rw [h0]; exact ⟨rfl, hv1⟩⟩
  | some z =>
  obtain ⟨f, y3⟩ := z
  have hf := (qB_some hq1).2
  simp only at hf
  rw [hq1] at HO
  simp only [Option.bind_some] at HO
  refine (RrPost.ok P1 hq1).mono ?_
  rintro e w1 ⟨rfl, s1, b1⟩
  have HP := hide (HP.out.but b1 hne)
  have HS := hide s1
  clear s1 b1 P1 hq1
  have e2 : (bits .and .i64 (f : Int) 2 != 0) = digB f 2 := and_dig f 2 hf (by omega)
  have e4 : (bits .and .i64 (f : Int) 4 != 0) = digB f 4 := and_dig f 4 hf (by omega)
  have e32 : (bits .and .i64 (f : Int) 32 != 0) = digB f 32 := and_dig f 32 hf (by omega)
  have e64 : (bits .and .i64 (f : Int) 64 != 0) = digB f 64 := and_dig f 64 hf (by omega)
  have e128 : (bits .and .i64 (f : Int) 128 != 0) = digB f 128 := and_dig f 128 hf (by omega)
  have eq := digFit f hf
  have hZ : conP f = conZ (digB f 2) (digB f 4) (digB f 32) (digB f 64) (digB f 128) (f / 8 % 4) := rfl
  rw [hZ] at HO
  have hq3 : f / 8 % 4 ≤ 3 := by omega
  clear hZ
  generalize digB f 2 = D2 at *
  generalize digB f 4 = D4 at *
  generalize digB f 32 = D32 at *
  generalize digB f 64 = D64 at *
  generalize digB f 128 = D128 at *
  generalize f / 8 % 4 = q at *
  obtain ⟨-, -, -, -, -, c5, c6, -, c8, -, c10, c11, c12, -, -, -, -, -⟩ := Blk.p18 HP.out
  have f5 := HP.out.frozen 5
  have f6 := HP.out.frozen 6
  have f8 := HP.out.frozen 8
  have f10 := HP.out.frozen 10
  have f11 := HP.out.frozen 11
  have f12 := HP.out.frozen 12
  go_upto_region 9 with fail
  obtain ⟨U, hU⟩ : ∃ U, ((((((w1.setCell ⟨gp, 8, none⟩ (.bool D2)).setCell ⟨gp, 10, none⟩ (.bool D4)).setCell ⟨gp, 5, none⟩ (.int .i64 (q : Int))).setCell ⟨gp, 6, none⟩ (.bool D32)).setCell ⟨gp, 12, none⟩ (.bool D64)).setCell ⟨gp, 11, none⟩ (.bool D128)) = U := ⟨_, rfl⟩
  rw [hU]
  have HP := hide (show PkZ U gp (conZ D2 D4 D32 D64 D128 q) from by rw [← hU]; exact Blk.set (Blk.set (Blk.set (Blk.set (Blk.set (Blk.set HP.out 8 _) 10 _) 5 _) 6 _) 12 _) 11 _)
  have HS := hide (show RrS v xs A n k g y3 U from by rw [← hU]; exact (((((HS.out.set hne hvp 8 _).set hne hvp 10 _).set hne hvp 5 _).set hne hvp 6 _).set hne hvp 12 _).set hne hvp 11 _)
  clear hU c5 c6 c8 c10 c11 c12 f5 f6 f8 f10 f11 f12 e2 e4 e32 e64 e128 eq
  refine wp_region_lit ?_
  refine wpList_mv rfl (.tmp 0) rfl ?_
  refine wpList_mv rfl (.tmp 1) rfl ?_
  refine wpList_nc rfl (.tmp 56) rfl ⟨gp, 0, none⟩ rfl ?_
  refine wpList_loadP rfl 27 (.tmp 57) rfl gp 27 (conZ D2 D4 D32 D64 D128 q) none 0 0 none 0 0 rfl HP.out Try.underlying27 rfl (by kernel_rfl) ?_
  have P1 := marks_any (conZ D2 D4 D32 D64 D128 q) none 0 0 none 0 0 U (by show (0 : Int) ≤ (q : Int); omega) (by show (q : Int) ≤ 3; omega)
  obtain ⟨N, hN⟩ : ∃ N, conFlags (conZ D2 D4 D32 D64 D128 q) = N := ⟨_, rfl⟩
  rw [hN] at P1 HO
  simp only [pkA, conZ] at P1 ⊢
  clear hN
  go_wp2_with fail
  refine P1.mono ?_
  rintro e w1 ⟨rfl, b1⟩
  have HP := hide (show PkZ w1 gp (conZ D2 D4 D32 D64 D128 q) from Blk.keep HP.out b1)
  have HS := hide (HS.out.keep b1)
  clear b1 P1
  by_cases hm : N = f
  case neg =>
    have h0 : O = none := by rw [← HO.out, if_neg hm]
    have q1 : ((N : Int) == (f : Int)) = false := by simp; omega
    have hv1 := HS.out.low
    go_wp2_with fail
    refine (must_no _ _).mono ?_
    rintro e w2 ⟨rfl, rfl⟩
    go_wp2_with fail
    all_goals first | exact ⟨rfl, rfl, hv1⟩ | exact ⟨rfl, by rw [h0]; exact ⟨rfl, hv1⟩⟩
  case pos =>
  subst hm
  rw [if_pos rfl] at HO
  go_wp2_with fail
  refine (must_ok _ _).mono ?_
  rintro e w2 ⟨rfl, rfl⟩
  go_wp2_with fail
  have P1 := rrWord_any v xs A n k g y3 _ hb HS.out
  cases hq1 : qW y3 with
  | none =>
    have h0 : O = none := by rw [← HO.out, hq1]; rfl
    refine (RrPost.no P1 hq1).mono ?_
    rintro e w1 ⟨rfl, hv1⟩
    go_wp2_with fail
    all_goals first | exact ⟨rfl, rfl, hv1⟩ | exact ⟨rfl, by rw [h0]; exact ⟨rfl, hv1⟩⟩
  | some z =>
  obtain ⟨al, y4⟩ := z
  rw [hq1] at HO
  simp only [Option.bind_some] at HO
  refine (RrPost.ok P1 hq1).mono ?_
  rintro e w1 ⟨rfl, s1, b1⟩
  have HP := hide (HP.out.but b1 hne)
  have HS := hide s1
  clear s1 b1 P1 hq1
  have ci := (Blk.p18 HP.out).2.2.2.2.2.2.2.2.2.1
  have fi := HP.out.frozen 9
  go_wp2_with fail
  obtain ⟨U2, hU⟩ : ∃ U2, (w1.setCell ⟨gp, 9, none⟩ (.int .i64 (al : Int))) = U2 := ⟨_, rfl⟩
  rw [hU]
  have HP := hide (show PkZ U2 gp ⟨1, false, 0, [], [], (q : Int), D32, [], D2, (al : Int), D4, D128, D64, [], [], false, [], []⟩ from by rw [← hU]; exact Blk.set HP.out 9 _)
  have HS := hide (show RrS v xs A n k g y4 U2 from by rw [← hU]; exact HS.out.set hne hvp 9 _)
  clear hU ci fi
  replace HO := hide (show conE ⟨1, false, 0, [], [], (q : Int), D32, [], D2, (al : Int), D4, D128, D64, [], [], false, [], []⟩ D4 D64 D128 y4 = O from HO.out)
  unfold conE at HO
  have P1 := rrText_any v xs A n k g y4 _ hb HS.out
  cases hq1 : qT y4 with
  | none =>
    have h0 : O = none := by rw [← HO.out, hq1]; rfl
    refine (RrPost.no P1 hq1).mono ?_
    rintro e w1 ⟨rfl, hv1⟩
    go_wp2_with fail
    all_goals first | exact ⟨rfl, rfl, hv1⟩ | exact ⟨rfl, by rw [h0]; exact ⟨rfl, hv1⟩⟩
  | some z =>
  obtain ⟨cl, y5⟩ := z
  rw [hq1] at HO
  simp only [Option.bind_some] at HO
  refine (RrPost.ok P1 hq1).mono ?_
  rintro e w1 ⟨rfl, s1, b1⟩
  have HP := hide (HP.out.but b1 hne)
  have HS := hide s1
  clear s1 b1 P1 hq1
  have c7 := (Blk.p18 HP.out).2.2.2.2.2.2.2.1
  have c10 := (Blk.p18 HP.out).2.2.2.2.2.2.2.2.2.2.1
  have c11 := (Blk.p18 HP.out).2.2.2.2.2.2.2.2.2.2.2.1
  have c12 := (Blk.p18 HP.out).2.2.2.2.2.2.2.2.2.2.2.2.1
  have f7 := HP.out.frozen 7
  cases D4 with
  | false =>
    simp only [oT_false, Option.bind_some] at HO
    cases D128 with
    | false =>
      simp only [oT_false, Option.bind_some] at HO
      cases D64 with
      | false =>
        simp only [oT_false, Option.bind_some] at HO
        go_wp2_with fail
        go_end0
        rw [← HO.out]
        exact ⟨rfl, HS.out.set hne hvp 7 _, none, 0, 0, none, 0, 0, Blk.set HP.out 7 _, NewAt.nil _, NewAt.nil _, rfl, Nat.le_refl _, Rd.nil _ _, rfl, Nat.le_refl _, Rd.nil _ _⟩
      | true =>
        go_wp2_with fail
        obtain ⟨V1, hU⟩ : ∃ V1, (w1.setCell ⟨gp, 7, none⟩ (.string (str cl))) = V1 := ⟨_, rfl⟩
        rw [hU]
        have HP := hide (show PkZ V1 gp ⟨1, false, 0, [], [], (q : Int), D32, cl, D2, (al : Int), false, false, true, [], [], false, [], []⟩ from by rw [← hU]; exact Blk.set HP.out 7 _)
        have HS := hide (show RrS v xs A n k g y5 V1 from by rw [← hU]; exact HS.out.set hne hvp 7 _)
        clear hU f7 c7
        have P1 := rrText_any v xs A n k g y5 _ hb HS.out
        try simp only [oT_true] at HO
        cases hq1 : qT y5 with
        | none =>
          have h0 : O = none := by rw [← HO.out, hq1]; rfl
          refine (RrPost.no P1 hq1).mono ?_
          rintro e w1 ⟨rfl, hv1⟩
          go_wp2_with fail
          all_goals first | exact ⟨rfl, rfl, hv1⟩ | exact ⟨rfl, by rw [h0]; exact ⟨rfl, hv1⟩⟩
        | some z =>
        obtain ⟨ps, y5d⟩ := z
        rw [hq1] at HO
        simp only [Option.bind_some] at HO
        refine (RrPost.ok P1 hq1).mono ?_
        rintro e w1 ⟨rfl, s1, b1⟩
        have HP := hide (HP.out.but b1 hne)
        have HS := hide s1
        clear s1 b1 P1 hq1
        have c14 := (Blk.p18 HP.out).2.2.2.2.2.2.2.2.2.2.2.2.2.2.1
        have f14 := HP.out.frozen 14
        go_wp2_with fail
        go_end0
        rw [← HO.out]
        exact ⟨rfl, HS.out.set hne hvp 14 _, none, 0, 0, none, 0, 0, Blk.set HP.out 14 _, NewAt.nil _, NewAt.nil _, rfl, Nat.le_refl _, Rd.nil _ _, rfl, Nat.le_refl _, Rd.nil _ _⟩
    | true =>
      go_wp2_with fail
      obtain ⟨V2, hU⟩ : ∃ V2, (w1.setCell ⟨gp, 7, none⟩ (.string (str cl))) = V2 := ⟨_, rfl⟩
      rw [hU]
      have HP := hide (show PkZ V2 gp ⟨1, false, 0, [], [], (q : Int), D32, cl, D2, (al : Int), false, true, D64, [], [], false, [], []⟩ from by rw [← hU]; exact Blk.set HP.out 7 _)
      have HS := hide (show RrS v xs A n k g y5 V2 from by rw [← hU]; exact HS.out.set hne hvp 7 _)
      clear hU f7 c7
      have P1 := rrText_any v xs A n k g y5 _ hb HS.out
      try simp only [oT_true] at HO
      cases hq1 : qT y5 with
      | none =>
        have h0 : O = none := by rw [← HO.out, hq1]; rfl
        refine (RrPost.no P1 hq1).mono ?_
        rintro e w1 ⟨rfl, hv1⟩
        go_wp2_with fail
        all_goals first | exact ⟨rfl, rfl, hv1⟩ | exact ⟨rfl, by rw [h0]; exact ⟨rfl, hv1⟩⟩
      | some z =>
      obtain ⟨us, y5c⟩ := z
      rw [hq1] at HO
      simp only [Option.bind_some] at HO
      refine (RrPost.ok P1 hq1).mono ?_
      rintro e w1 ⟨rfl, s1, b1⟩
      have HP := hide (HP.out.but b1 hne)
      have HS := hide s1
      clear s1 b1 P1 hq1
      have c12 := (Blk.p18 HP.out).2.2.2.2.2.2.2.2.2.2.2.2.1
      have c13 := (Blk.p18 HP.out).2.2.2.2.2.2.2.2.2.2.2.2.2.1
      have f13 := HP.out.frozen 13
      cases D64 with
      | false =>
        simp only [oT_false, Option.bind_some] at HO
        go_wp2_with fail
        go_end0
        rw [← HO.out]
        exact ⟨rfl, HS.out.set hne hvp 13 _, none, 0, 0, none, 0, 0, Blk.set HP.out 13 _, NewAt.nil _, NewAt.nil _, rfl, Nat.le_refl _, Rd.nil _ _, rfl, Nat.le_refl _, Rd.nil _ _⟩
      | true =>
        go_wp2_with fail
        obtain ⟨V3, hU⟩ : ∃ V3, (w1.setCell ⟨gp, 13, none⟩ (.string (str us))) = V3 := ⟨_, rfl⟩
        rw [hU]
        have HP := hide (show PkZ V3 gp ⟨1, false, 0, [], [], (q : Int), D32, cl, D2, (al : Int), false, true, true, us, [], false, [], []⟩ from by rw [← hU]; exact Blk.set HP.out 13 _)
        have HS := hide (show RrS v xs A n k g y5c V3 from by rw [← hU]; exact HS.out.set hne hvp 13 _)
        clear hU f13 c13
        have P1 := rrText_any v xs A n k g y5c _ hb HS.out
        try simp only [oT_true] at HO
        cases hq1 : qT y5c with
        | none =>
          have h0 : O = none := by rw [← HO.out, hq1]; rfl
          refine (RrPost.no P1 hq1).mono ?_
          rintro e w1 ⟨rfl, hv1⟩
          go_wp2_with fail
          all_goals first | exact ⟨rfl, rfl, hv1⟩ | exact ⟨rfl, by rw [h0]; exact ⟨rfl, hv1⟩⟩
        | some z =>
        obtain ⟨ps, y5cd⟩ := z
        rw [hq1] at HO
        simp only [Option.bind_some] at HO
        refine (RrPost.ok P1 hq1).mono ?_
        rintro e w1 ⟨rfl, s1, b1⟩
        have HP := hide (HP.out.but b1 hne)
        have HS := hide s1
        clear s1 b1 P1 hq1
        have c14 := (Blk.p18 HP.out).2.2.2.2.2.2.2.2.2.2.2.2.2.2.1
        have f14 := HP.out.frozen 14
        go_wp2_with fail
        go_end0
        rw [← HO.out]
        exact ⟨rfl, HS.out.set hne hvp 14 _, none, 0, 0, none, 0, 0, Blk.set HP.out 14 _, NewAt.nil _, NewAt.nil _, rfl, Nat.le_refl _, Rd.nil _ _, rfl, Nat.le_refl _, Rd.nil _ _⟩
  | true =>
    go_wp2_with fail
    obtain ⟨V4, hU⟩ : ∃ V4, (w1.setCell ⟨gp, 7, none⟩ (.string (str cl))) = V4 := ⟨_, rfl⟩
    rw [hU]
    have HP := hide (show PkZ V4 gp ⟨1, false, 0, [], [], (q : Int), D32, cl, D2, (al : Int), true, D128, D64, [], [], false, [], []⟩ from by rw [← hU]; exact Blk.set HP.out 7 _)
    have HS := hide (show RrS v xs A n k g y5 V4 from by rw [← hU]; exact HS.out.set hne hvp 7 _)
    clear hU f7 c7
    have P1 := rrText_any v xs A n k g y5 _ hb HS.out
    try simp only [oT_true] at HO
    cases hq1 : qT y5 with
    | none =>
      have h0 : O = none := by rw [← HO.out, hq1]; rfl
      refine (RrPost.no P1 hq1).mono ?_
      rintro e w1 ⟨rfl, hv1⟩
      go_wp2_with fail
      all_goals first | exact ⟨rfl, rfl, hv1⟩ | exact ⟨rfl, by rw [h0]; exact ⟨rfl, hv1⟩⟩
    | some z =>
    obtain ⟨tp, y5a⟩ := z
    rw [hq1] at HO
    simp only [Option.bind_some] at HO
    refine (RrPost.ok P1 hq1).mono ?_
    rintro e w1 ⟨rfl, s1, b1⟩
    have HP := hide (HP.out.but b1 hne)
    have HS := hide s1
    clear s1 b1 P1 hq1
    have c3 := (Blk.p18 HP.out).2.2.2.1
    have f3 := HP.out.frozen 3
    go_wp2_with fail
    obtain ⟨V5, hU⟩ : ∃ V5, (w1.setCell ⟨gp, 3, none⟩ (.string (str tp))) = V5 := ⟨_, rfl⟩
    rw [hU]
    have HP := hide (show PkZ V5 gp ⟨1, false, 0, tp, [], (q : Int), D32, cl, D2, (al : Int), true, D128, D64, [], [], false, [], []⟩ from by rw [← hU]; exact Blk.set HP.out 3 _)
    have HS := hide (show RrS v xs A n k g y5a V5 from by rw [← hU]; exact HS.out.set hne hvp 3 _)
    clear hU f3 c3
    have P1 := rrText_any v xs A n k g y5a _ hb HS.out
    try simp only [oT_true] at HO
    cases hq1 : qT y5a with
    | none =>
      have h0 : O = none := by rw [← HO.out, hq1]; rfl
      refine (RrPost.no P1 hq1).mono ?_
      rintro e w1 ⟨rfl, hv1⟩
      go_wp2_with fail
      all_goals first | exact ⟨rfl, rfl, hv1⟩ | exact ⟨rfl, by rw [h0]; exact ⟨rfl, hv1⟩⟩
    | some z =>
    obtain ⟨pl, y5b⟩ := z
    rw [hq1] at HO
    simp only [Option.bind_some] at HO
    refine (RrPost.ok P1 hq1).mono ?_
    rintro e w1 ⟨rfl, s1, b1⟩
    have HP := hide (HP.out.but b1 hne)
    have HS := hide s1
    clear s1 b1 P1 hq1
    have c4 := (Blk.p18 HP.out).2.2.2.2.1
    have c11 := (Blk.p18 HP.out).2.2.2.2.2.2.2.2.2.2.2.1
    have c12 := (Blk.p18 HP.out).2.2.2.2.2.2.2.2.2.2.2.2.1
    have f4 := HP.out.frozen 4
    cases D128 with
    | false =>
      simp only [oT_false, Option.bind_some] at HO
      cases D64 with
      | false =>
        simp only [oT_false, Option.bind_some] at HO
        go_wp2_with fail
        go_end0
        rw [← HO.out]
        exact ⟨rfl, HS.out.set hne hvp 4 _, none, 0, 0, none, 0, 0, Blk.set HP.out 4 _, NewAt.nil _, NewAt.nil _, rfl, Nat.le_refl _, Rd.nil _ _, rfl, Nat.le_refl _, Rd.nil _ _⟩
      | true =>
        go_wp2_with fail
        obtain ⟨V6, hU⟩ : ∃ V6, (w1.setCell ⟨gp, 4, none⟩ (.string (str pl))) = V6 := ⟨_, rfl⟩
        rw [hU]
        have HP := hide (show PkZ V6 gp ⟨1, false, 0, tp, pl, (q : Int), D32, cl, D2, (al : Int), true, false, true, [], [], false, [], []⟩ from by rw [← hU]; exact Blk.set HP.out 4 _)
        have HS := hide (show RrS v xs A n k g y5b V6 from by rw [← hU]; exact HS.out.set hne hvp 4 _)
        clear hU f4 c4
        have P1 := rrText_any v xs A n k g y5b _ hb HS.out
        try simp only [oT_true] at HO
        cases hq1 : qT y5b with
        | none =>
          have h0 : O = none := by rw [← HO.out, hq1]; rfl
          refine (RrPost.no P1 hq1).mono ?_
          rintro e w1 ⟨rfl, hv1⟩
          go_wp2_with fail
          all_goals first | exact ⟨rfl, rfl, hv1⟩ | exact ⟨rfl, by rw [h0]; exact ⟨rfl, hv1⟩⟩
        | some z =>
        obtain ⟨ps, y5bd⟩ := z
        rw [hq1] at HO
        simp only [Option.bind_some] at HO
        refine (RrPost.ok P1 hq1).mono ?_
        rintro e w1 ⟨rfl, s1, b1⟩
        have HP := hide (HP.out.but b1 hne)
        have HS := hide s1
        clear s1 b1 P1 hq1
        have c14 := (Blk.p18 HP.out).2.2.2.2.2.2.2.2.2.2.2.2.2.2.1
        have f14 := HP.out.frozen 14
        go_wp2_with fail
        go_end0
        rw [← HO.out]
        exact ⟨rfl, HS.out.set hne hvp 14 _, none, 0, 0, none, 0, 0, Blk.set HP.out 14 _, NewAt.nil _, NewAt.nil _, rfl, Nat.le_refl _, Rd.nil _ _, rfl, Nat.le_refl _, Rd.nil _ _⟩
    | true =>
      go_wp2_with fail
      obtain ⟨V7, hU⟩ : ∃ V7, (w1.setCell ⟨gp, 4, none⟩ (.string (str pl))) = V7 := ⟨_, rfl⟩
      rw [hU]
      have HP := hide (show PkZ V7 gp ⟨1, false, 0, tp, pl, (q : Int), D32, cl, D2, (al : Int), true, true, D64, [], [], false, [], []⟩ from by rw [← hU]; exact Blk.set HP.out 4 _)
      have HS := hide (show RrS v xs A n k g y5b V7 from by rw [← hU]; exact HS.out.set hne hvp 4 _)
      clear hU f4 c4
      have P1 := rrText_any v xs A n k g y5b _ hb HS.out
      try simp only [oT_true] at HO
      cases hq1 : qT y5b with
      | none =>
        have h0 : O = none := by rw [← HO.out, hq1]; rfl
        refine (RrPost.no P1 hq1).mono ?_
        rintro e w1 ⟨rfl, hv1⟩
        go_wp2_with fail
        all_goals first | exact ⟨rfl, rfl, hv1⟩ | exact ⟨rfl, by rw [h0]; exact ⟨rfl, hv1⟩⟩
      | some z =>
      obtain ⟨us, y5bc⟩ := z
      rw [hq1] at HO
      simp only [Option.bind_some] at HO
      refine (RrPost.ok P1 hq1).mono ?_
      rintro e w1 ⟨rfl, s1, b1⟩
      have HP := hide (HP.out.but b1 hne)
      have HS := hide s1
      clear s1 b1 P1 hq1
      have c12 := (Blk.p18 HP.out).2.2.2.2.2.2.2.2.2.2.2.2.1
      have c13 := (Blk.p18 HP.out).2.2.2.2.2.2.2.2.2.2.2.2.2.1
      have f13 := HP.out.frozen 13
      cases D64 with
      | false =>
        simp only [oT_false, Option.bind_some] at HO
        go_wp2_with fail
        go_end0
        rw [← HO.out]
        exact ⟨rfl, HS.out.set hne hvp 13 _, none, 0, 0, none, 0, 0, Blk.set HP.out 13 _, NewAt.nil _, NewAt.nil _, rfl, Nat.le_refl _, Rd.nil _ _, rfl, Nat.le_refl _, Rd.nil _ _⟩
      | true =>
        go_wp2_with fail
        obtain ⟨V8, hU⟩ : ∃ V8, (w1.setCell ⟨gp, 13, none⟩ (.string (str us))) = V8 := ⟨_, rfl⟩
        rw [hU]
        have HP := hide (show PkZ V8 gp ⟨1, false, 0, tp, pl, (q : Int), D32, cl, D2, (al : Int), true, true, true, us, [], false, [], []⟩ from by rw [← hU]; exact Blk.set HP.out 13 _)
        have HS := hide (show RrS v xs A n k g y5bc V8 from by rw [← hU]; exact HS.out.set hne hvp 13 _)
        clear hU f13 c13
        have P1 := rrText_any v xs A n k g y5bc _ hb HS.out
        try simp only [oT_true] at HO
        cases hq1 : qT y5bc with
        | none =>
          have h0 : O = none := by rw [← HO.out, hq1]; rfl
          refine (RrPost.no P1 hq1).mono ?_
          rintro e w1 ⟨rfl, hv1⟩
          go_wp2_with fail
          all_goals first | exact ⟨rfl, rfl, hv1⟩ | exact ⟨rfl, by rw [h0]; exact ⟨rfl, hv1⟩⟩
        | some z =>
        obtain ⟨ps, y5bcd⟩ := z
        rw [hq1] at HO
        simp only [Option.bind_some] at HO
        refine (RrPost.ok P1 hq1).mono ?_
        rintro e w1 ⟨rfl, s1, b1⟩
        have HP := hide (HP.out.but b1 hne)
        have HS := hide s1
        clear s1 b1 P1 hq1
        have c14 := (Blk.p18 HP.out).2.2.2.2.2.2.2.2.2.2.2.2.2.2.1
        have f14 := HP.out.frozen 14
        go_wp2_with fail
        go_end0
        rw [← HO.out]
        exact ⟨rfl, HS.out.set hne hvp 14 _, none, 0, 0, none, 0, 0, Blk.set HP.out 14 _, NewAt.nil _, NewAt.nil _, rfl, Nat.le_refl _, Rd.nil _ _, rfl, Nat.le_refl _, Rd.nil _ _⟩

end Go.Proofs.Ytdlhcecmodefkaa
