/-
  What is proved here: the program's reader of packets, one thing after the other (left, octet, word, text, length, rest): what it returns and where it stands then, or that it gives up. Condition: at most 65535 bytes.
-/
import Derived.Test.YtjaaeiemgojnbaaPrMath
import Derived.Test.YtjaaeiemgojnbaaPq1
import Derived.Test.YtjaaeiemgojnbaaVt3
import Derived.Test.YtjaaeiemgojnbaaMem5
import Derived.StillTailTactics
import Derived.WalkMore
namespace Go.Proofs.Ytjaaeiemgojnbaa
set_option linter.unusedVariables false
set_option linter.unusedSimpArgs false
open Go.RowKit

/-- A world that came in, and the blocks that may turn: all new ones among them. -/
structure Bs where
  v : World
  S : Nat → Prop
  new : ∀ i, v.heap.size ≤ i → S i
theorem But.drewN {S : Nat → Prop} {w w' : World} (h : But S w w') (q : Nat) : But S w (w'.drewN q) := h.on (below_drewN (Below.refl _ _) q)
/-- The bytes that are read, as they came in. -/
def RrB (v : Bs) (xs : List UInt8) (A : Option Addr) (n k : Nat) : Prop := xs.length = n ∧ n ≤ k ∧ n ≤ 65535 ∧ Rd v.v A n (bv xs) ∧ (0 < n → Off v.S A)
/-- A reader in memory that has ys still ahead. -/
def RrS (v : Bs) (xs : List UInt8) (A : Option Addr) (n k g : Nat) (ys : List UInt8) (w : World) : Prop :=
  ∃ i : Nat, Blk w g 76 [.slice A n k, .int .i64 (i : Int)] ∧ i + ys.length = n ∧ xs.drop i = ys ∧ v.S g ∧ But v.S v.v w
/-- What a call of the reader comes to: it gives up, or returns and has so much still ahead. -/
def RrPost {α : Type} (v : Bs) (xs : List UInt8) (A : Option Addr) (n k g : Nat) (o : Option (α × List UInt8)) (val : α → Value) (w : World) (e : Ending) (w' : World) : Prop := match o with
  | none => e = .panicked gvP ∧ But v.S v.v w'
  | some z => e = .returned (val z.1) ∧ RrS v xs A n k g z.2 w' ∧ But (fun i => i = g) w w'
theorem RrB.rd {v : Bs} {w : World} {xs : List UInt8} {A : Option Addr} {n k : Nat} (h : RrB v xs A n k) (b : But v.S v.v w) : Rd w A n (bv xs) := by
  rcases Nat.eq_zero_or_pos n with h0 | h0
  · exact ⟨h.2.2.2.1.1, fun h1 => absurd h1 (by omega)⟩
  · exact h.2.2.2.1.but b (h.2.2.2.2 h0)

/-- It goes on by j. -/
theorem RrS.goes {v : Bs} {w w1 : World} {xs : List UInt8} {A : Option Addr} {n k g i : Nat} {ys : List UInt8} (hB : Blk w1 g 76 [.slice A n k, .int .i64 (i : Int)]) (hi : i + ys.length = n) (hd : xs.drop i = ys) (hg : v.S g) (hv : But v.S v.v w1) (hbut : But (fun i => i = g) w w1) (j : Nat) (hj : j ≤ ys.length) (z : Int) (hz : z = (i : Int) + (j : Int)) :
    RrS v xs A n k g (ys.drop j) (w1.setCell ⟨g, 1, none⟩ (.int .i64 z)) ∧ But (fun i => i = g) w (w1.setCell ⟨g, 1, none⟩ (.int .i64 z)) := by
  refine ⟨⟨i + j, ?_, by rw [List.length_drop]; omega, by rw [← List.drop_drop, hd], hg, hv.setCell' _ hg⟩, hbut.setCell' _ rfl⟩
  have := hB.set 1 (.int .i64 z)
  rw [hz, ← Int.natCast_add] at this ⊢
  exact this
theorem Blk.drewN {w : World} {g : Nat} {t : TypeId} {cs : List Value} (h : Blk w g t cs) (q : Nat) : Blk (w.drewN q) g t cs := h

theorem rrLeft_any (v : Bs) (xs : List UInt8) (A : Option Addr) (n k g : Nat) (ys : List UInt8) (w : World) (hb : RrB v xs A n k) (h : RrS v xs A n k g ys w) : Calls Try.prog 86 #[.pointer (some ⟨g, 0, none⟩)] w fun e w' => e = .returned (.int .i64 (ys.length : Int)) ∧ RrS v xs A n k g ys w' ∧ But (fun i => i = g) w w' := by
  obtain ⟨i, hB, hi, hd, hg, hv⟩ := h
  obtain ⟨-, -, h65, -, -⟩ := hb
  obtain ⟨m, hm⟩ : ∃ m, ys.length = m := ⟨_, rfl⟩
  rw [hm] at hi ⊢
  have c0 := hB.cell 0
  have c1 := hB.cell 1
  simp only [List.getElem?_cons_zero, List.getElem?_cons_succ] at c0 c1
  have HB := hide hB
  have q1 : ((n : Int) - (i : Int)) = (m : Int) := by omega
  have q2 : IntKind.i64.wrap ((n : Int) - (i : Int)) = (m : Int) := by rw [IntKind.wrap_i64]; omega
  have Hm := hide hm
  have Hi := hide hi
  clear hB hi hm
  go_enter Try.func86, Try.ntmps86
  go_wp2_with fail
  go_quiet (fail)
  go_wp2_with fail
  go_ret
  exact ⟨rfl, ⟨i, HB.out, by rw [Hm.out]; exact Hi.out, hd, hg, But.drewN hv _⟩, But.ofBelow (below_drewN (Below.refl _ _) _) _⟩

theorem rrLeft_q (v : Bs) (xs : List UInt8) (A : Option Addr) (n k g : Nat) (ys : List UInt8) (w : World) (hb : RrB v xs A n k) (h : RrS v xs A n k g ys w) : Calls Try.prog 86 #[.pointer (some ⟨g, 0, none⟩)] w fun e w' => e = .returned (.int .i64 (ys.length : Int)) ∧ ∃ q, w' = w.drewN q := by
  obtain ⟨i, hB, hi, hd, hg, hv⟩ := h
  obtain ⟨-, -, h65, -, -⟩ := hb
  obtain ⟨m, hm⟩ : ∃ m, ys.length = m := ⟨_, rfl⟩
  rw [hm] at hi ⊢
  have c0 := hB.cell 0
  have c1 := hB.cell 1
  simp only [List.getElem?_cons_zero, List.getElem?_cons_succ] at c0 c1
  have q1 : ((n : Int) - (i : Int)) = (m : Int) := by omega
  have q2 : IntKind.i64.wrap ((n : Int) - (i : Int)) = (m : Int) := by rw [IntKind.wrap_i64]; omega
  clear hB hi hm
  go_enter Try.func86, Try.ntmps86
  go_wp2_with fail
  go_quiet (fail)
  go_wp2_with fail
  go_ret
  exact ⟨rfl, _, rfl⟩

theorem rrOctet_any (v : Bs) (xs : List UInt8) (A : Option Addr) (n k g : Nat) (ys : List UInt8) (w : World) (hb : RrB v xs A n k) (h : RrS v xs A n k g ys w) : Calls Try.prog 83 #[.pointer (some ⟨g, 0, none⟩)] w (RrPost v xs A n k g (qB ys) (fun c => .int .i64 (c : Int)) w) := by
  have P := hide (rrLeft_any v xs A n k g ys w hb h)
  clear h
  cases ys with
  | nil =>
    simp only [List.length_nil] at P
    show Calls _ _ _ _ fun e w' => e = .panicked gvP ∧ But v.S v.v w'
    go_enter Try.func83, Try.ntmps83
    go_wp2_with fail
    refine P.out.mono ?_
    rintro e w1 ⟨rfl, ⟨i, -, -, -, -, hv⟩, -⟩
    go_wp2_with fail
    refine (must_no _ _).mono ?_
    rintro e w2 ⟨rfl, rfl⟩
    go_wp2_with fail
    exact ⟨rfl, rfl, hv⟩
  | cons c t =>
    show Calls _ _ _ _ fun e w' => e = .returned (.int .i64 ((c.toNat : Nat) : Int)) ∧ RrS v xs A n k g t w' ∧ But (fun i => i = g) w w'
    obtain ⟨m, hm⟩ : ∃ m, t.length = m := ⟨_, rfl⟩
    rw [List.length_cons, hm] at P
    have q0 : (((m + 1 : Nat) : Int) > 0) := by omega
    have hc8 := c.toNat_lt
    have Hm := hide hm
    clear hm
    obtain ⟨X, hX⟩ : ∃ X, c.toNat = X := ⟨_, rfl⟩
    have HX := hide hX
    rw [hX] at hc8 ⊢
    clear hX
    go_enter Try.func83, Try.ntmps83
    go_wp2_with fail
    refine P.out.mono ?_
    rintro e w1 ⟨rfl, ⟨i, hB, hi, hd, hg, hv⟩, hbut⟩
    rw [List.length_cons, Hm.out] at hi
    obtain ⟨b, o, rfl, hbl, hcell⟩ := (hb.rd hv).at_ (k := i) (by omega)
    have hx : xs[i]? = some c := by
      have := congrArg (fun l => l[0]?) hd
      simpa using this
    have cA : w1.cell? ⟨b, o + i, none⟩ = some (.int .u8 c.toNat) := hcell i _ (by simp [bv, hx])
    have c0 := hB.cell 0
    have c1 := hB.cell 1
    have f1 := hB.frozen 1
    simp only [List.getElem?_cons_zero, List.getElem?_cons_succ] at c0 c1
    have q1 : (i : Int) < (n : Int) := by omega
    have HB := hide hB
    have Hd := hide hd
    have Hi := hide hi
    have Hb := hide hbut
    have h65 := hb.2.2.1
    rw [HX.out] at cA
    clear hB hd hi hbut hx hcell hbl hb
    go_wp2_with fail
    refine (must_ok _ _).mono ?_
    rintro e w2 ⟨rfl, rfl⟩
    go_wp2_with fail
    go_quiet (fail)
    go_wp2_with fail
    go_ret
    exact ⟨rfl, RrS.goes (HB.out.drewN nq) (by rw [List.length_cons, Hm.out]; exact Hi.out) Hd.out hg (But.drewN hv nq) (Hb.out.drewN nq) 1 (by simp) _ rfl⟩

set_option maxRecDepth 100000 in
theorem rrWord_any (v : Bs) (xs : List UInt8) (A : Option Addr) (n k g : Nat) (ys : List UInt8) (w : World) (hb : RrB v xs A n k) (h : RrS v xs A n k g ys w) : Calls Try.prog 99 #[.pointer (some ⟨g, 0, none⟩)] w (RrPost v xs A n k g (qW ys) (fun c => .int .i64 (c : Int)) w) := by
  obtain ⟨i, hB, hi, hd, hg, hv⟩ := h
  have c0 := hB.cell 0
  have c1 := hB.cell 1
  simp only [List.getElem?_cons_zero, List.getElem?_cons_succ] at c0 c1
  have h65 := hb.2.2.1
  have HB := hide (hB : Blk w g 76 [.slice A n k, .int .i64 (i : Int)])
  have Hv := hide hv
  have Hd := hide hd
  have Hi := hide hi
  have Hb := hide (But.refl (fun i => i = g) w)
  have f1 := hB.frozen 1
  have hib : (i : Int) ≤ 65535 := by omega
  have bad : qW ys = none → (n : Int) - 2 < (i : Int) := by
    intro e
    match ys, e, hi with
    | [], _, hi => simp at hi; omega
    | [c], _, hi => simp at hi; omega
  have good : ∀ z, qW ys = some z → ∃ x y : UInt8, xs[i]? = some x ∧ xs[i + 1]? = some y ∧ z = (256 * x.toNat + y.toNat, ys.drop 2) ∧ 2 ≤ ys.length := by
    intro z e
    match ys, e, hd with
    | x :: y :: t, e, hd =>
      injection e with e
      have h0 := congrArg (fun l => l[0]?) hd
      have h1 := congrArg (fun l => l[1]?) hd
      exact ⟨x, y, by simpa using h0, by simpa using h1, e.symm, by simp⟩
  clear hB hd hi hv
  cases hq : qW ys with
  | none =>
    have q1 := bad hq
    have P := hide fun W => at_more A n k (i : Int) W (by omega) q1 (by unfold maxLen; omega)
    show Calls _ _ _ _ fun e w' => e = .panicked gvP ∧ But v.S v.v w'
    clear good bad hq hb
    go_enter Try.func99, Try.ntmps99
    go_wp2_with fail
    go_quiet ((go_at_call 109; exact (P.out _).mono fun _ _ h => ⟨h.1, _, h.2.symm⟩))
    go_wp2_with fail
    refine (must_no _ _).mono ?_
    rintro e w2 ⟨rfl, rfl⟩
    go_wp2_with fail
    exact ⟨rfl, rfl, But.drewN Hv.out _⟩
  | some z =>
    obtain ⟨x, y, hx, hy, rfl, h2⟩ := good z hq
    have P := hide fun W hW => at_ok A n k i xs W hW (by have := Hi.out; omega) (by unfold maxLen; omega) x y hx hy
    have HR := hide (hb.rd Hv.out)
    have hx8 := x.toNat_lt
    have hy8 := y.toNat_lt
    obtain ⟨X, hX⟩ : ∃ X, 256 * x.toNat + y.toNat = X := ⟨_, rfl⟩
    have HX := hide (show (256 * (x.toNat : Int) + (y.toNat : Int)) = (X : Int) by omega)
    rw [hX]
    show Calls _ _ _ _ fun e w' => e = .returned (.int .i64 (X : Int)) ∧ RrS v xs A n k g (ys.drop 2) w' ∧ But (fun i => i = g) w w'
    clear good bad hq hb hx hy hX hx8 hy8
    go_enter Try.func99, Try.ntmps99
    go_wp2_with fail
    go_quiet ((go_at_call 109; exact Calls.quiet_of (P.out _ (HR.out.drewN _))))
    rw [HX.out]
    go_wp2_with fail
    refine (must_ok _ _).mono ?_
    rintro e w2 ⟨rfl, rfl⟩
    go_wp2_with fail
    go_ret
    exact ⟨rfl, RrS.goes (HB.out.drewN nq) Hi.out Hd.out hg (But.drewN Hv.out nq) (Hb.out.drewN nq) 2 h2 _ rfl⟩

/-- What stands two bytes on. -/
theorem qW_at {xs ys : List UInt8} {i : Nat} (hd : xs.drop i = ys) {z : Nat × List UInt8} (e : qW ys = some z) : ∃ x y : UInt8, xs[i]? = some x ∧ xs[i + 1]? = some y ∧ z = (256 * x.toNat + y.toNat, ys.drop 2) ∧ 2 ≤ ys.length := by
  match ys, e, hd with
  | x :: y :: t, e, hd =>
    injection e with e
    have h0 := congrArg (fun l => l[0]?) hd
    have h1 := congrArg (fun l => l[1]?) hd
    exact ⟨x, y, by simpa using h0, by simpa using h1, e.symm, by simp⟩
theorem qW_no {ys : List UInt8} (e : qW ys = none) : ys.length < 2 := by
  match ys, e with
  | [], _ => simp
  | [c], _ => simp

set_option maxRecDepth 100000 in
theorem rrText_any (v : Bs) (xs : List UInt8) (A : Option Addr) (n k g : Nat) (ys : List UInt8) (w : World) (hb : RrB v xs A n k) (h : RrS v xs A n k g ys w) : Calls Try.prog 107 #[.pointer (some ⟨g, 0, none⟩)] w (RrPost v xs A n k g (qT ys) (fun s => .string (str s)) w) := by
  obtain ⟨i, hB, hi, hd, hg, hv⟩ := h
  have c0 := hB.cell 0
  have c1 := hB.cell 1
  simp only [List.getElem?_cons_zero, List.getElem?_cons_succ] at c0 c1
  have h65 := hb.2.2.1
  have hnk := hb.2.1
  have HB := hide (hB : Blk w g 76 [.slice A n k, .int .i64 (i : Int)])
  have Hv := hide hv
  have Hd := hide hd
  have Hi := hide hi
  have Hb := hide (But.refl (fun i => i = g) w)
  have f1 := hB.frozen 1
  have hib : (i : Int) ≤ 65535 := by omega
  have HR := hide (hb.rd hv)
  have HQ := hide (show ∀ z, qW ys = some z → qT ys = if z.2.length < z.1 then none else some (z.2.take z.1, z.2.drop z.1) from fun z e => by unfold qT; rw [e])
  have HN := hide (show qW ys = none → qT ys = none from fun e => by unfold qT; rw [e])
  clear hB hv hb
  cases hq : qW ys with
  | none =>
    rw [HN.out hq]
    have h2 := qW_no hq
    have P := hide fun W => textAt_more A n k (i : Int) W (by omega) (by omega) (by unfold maxLen; omega)
    show Calls _ _ _ _ fun e w' => e = .panicked gvP ∧ But v.S v.v w'
    clear hq hd hi
    go_enter Try.func107, Try.ntmps107
    go_wp2_with fail
    go_quiet ((go_at_call 110; exact (P.out _).mono fun _ _ h => ⟨h.1, _, h.2.symm⟩))
    go_wp2_with fail
    refine (must_no _ _).mono ?_
    rintro e w2 ⟨rfl, rfl⟩
    go_wp2_with fail
    exact ⟨rfl, rfl, But.drewN Hv.out _⟩
  | some z =>
    rw [HQ.out z hq]
    obtain ⟨x, y, hx, hy, rfl, h2⟩ := qW_at hd hq
    obtain ⟨m, hm⟩ : ∃ m, 256 * x.toNat + y.toNat = m := ⟨_, rfl⟩
    simp only [hm, List.length_drop]
    by_cases hl : ys.length - 2 < m
    · rw [if_pos hl]
      have P := hide fun W hW => textAt_short A n k i xs W hW (by omega) (by omega) x y hx hy (by omega)
      show Calls _ _ _ _ fun e w' => e = .panicked gvP ∧ But v.S v.v w'
      clear hq hd hi hx hy hm
      go_enter Try.func107, Try.ntmps107
      go_wp2_with fail
      go_quiet ((go_at_call 110; exact Calls.quiet_of (P.out _ (HR.out.drewN _))))
      go_wp2_with fail
      refine (must_no _ _).mono ?_
      rintro e w2 ⟨rfl, rfl⟩
      go_wp2_with fail
      exact ⟨rfl, rfl, But.drewN Hv.out _⟩
    · rw [if_neg hl]
      have P := hide fun W hW => textAt_ok A n k i m xs W hW hnk (by omega) (by omega) x y hx hy hm
      have e2 : ys.drop 2 = xs.drop (i + 2) := by rw [← hd, List.drop_drop]
      have e3 : (ys.drop 2).drop m = ys.drop (2 + m) := by rw [List.drop_drop]
      rw [e3, e2]
      obtain ⟨S, hS⟩ : ∃ S, (xs.drop (i + 2)).take m = S := ⟨_, rfl⟩
      rw [hS] at P ⊢
      show Calls _ _ _ _ fun e w' => e = .returned (.string (str S)) ∧ RrS v xs A n k g (ys.drop (2 + m)) w' ∧ But (fun i => i = g) w w'
      have hj : 2 + m ≤ ys.length := by omega
      have Hj := hide hj
      obtain ⟨N, hN⟩ : ∃ N, i + 2 + m = N := ⟨_, rfl⟩
      rw [hN] at P
      have HN2 := hide hN
      clear hq hd hi hx hy hm e2 e3 hS hl hj hN
      go_enter Try.func107, Try.ntmps107
      go_wp2_with fail
      go_quiet ((go_at_call 110; exact Calls.quiet_of (P.out _ (HR.out.drewN _))))
      go_wp2_with fail
      refine (must_ok _ _).mono ?_
      rintro e w2 ⟨rfl, rfl⟩
      go_wp2_with fail
      go_ret
      exact ⟨rfl, RrS.goes (HB.out.drewN nq) Hi.out Hd.out hg (But.drewN Hv.out nq) (Hb.out.drewN nq) (2 + m) Hj.out _ (by have := HN2.out; omega)⟩

set_option maxRecDepth 100000 in
theorem rrRest_any (v : Bs) (xs : List UInt8) (A : Option Addr) (n k g : Nat) (ys : List UInt8) (w : World) (hb : RrB v xs A n k) (h : RrS v xs A n k g ys w) : Calls Try.prog 108 #[.pointer (some ⟨g, 0, none⟩)] w fun e w' => e = .returned (.string (str ys)) ∧ RrS v xs A n k g [] w' ∧ But (fun i => i = g) w w' := by
  obtain ⟨i, hB, hi, hd, hg, hv⟩ := h
  have c0 := hB.cell 0
  have c1 := hB.cell 1
  simp only [List.getElem?_cons_zero, List.getElem?_cons_succ] at c0 c1
  have h65 := hb.2.2.1
  have hnk := hb.2.1
  have f1 := hB.frozen 1
  have hin : (i : Int) ≤ (n : Int) := by omega
  have hR := hb.rd hv
  have r2 := hR.tail i k (by omega) hnk
  rw [bv_drop, hd] at r2
  have hsl := fun W => run_slTail (P := Try.prog) 31 5 Try.underlying31 u8_size A n k (i : Int) i rfl (by omega) W
  have hcs := fun q => rdStr (r2.drewN q) (k - i)
  have HB := hide hB
  have Hv := hide hv
  have Hd := hide hd
  have Hi := hide hi
  have Hb := hide (But.refl (fun i => i = g) w)
  clear hB hi hd hv hR r2 hb
  go_enter Try.func108, Try.ntmps108
  go_wp2_with fail
  go_quiet (fail)
  go_wp2_with fail
  go_ret
  have hl : ys.length ≤ ys.length := Nat.le_refl _
  have := RrS.goes (HB.out.drewN nq) Hi.out Hd.out hg (But.drewN Hv.out nq) (Hb.out.drewN nq) ys.length hl (n : Int) (by have := Hi.out; omega)
  rw [List.drop_length] at this
  exact ⟨rfl, this⟩

end Go.Proofs.Ytjaaeiemgojnbaa
