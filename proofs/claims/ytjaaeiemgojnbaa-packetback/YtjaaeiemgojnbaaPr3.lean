/-
  What is proved here: what the program's reader of packets makes of the fields of a Connack. Condition: at most 65535 bytes.
-/
import Derived.Test.YtjaaeiemgojnbaaPr2
import Derived.Test.YtjaaeiemgojnbaaPkLd
import Derived.Laws.NewBlocks
namespace Go.Proofs.Ytjaaeiemgojnbaa
set_option linter.unusedVariables false
set_option linter.unusedSimpArgs false
open Go.RowKit

/-- What the reading of fields into the packet in block gp comes to. -/
def FPost (v : Bs) (xs : List UInt8) (A : Option Addr) (n k g gp : Nat) (o : Option (Pk × List UInt8)) (e : Ending) (w' : World) : Prop := match o with
  | none => e = .panicked gvP ∧ But v.S v.v w'
  | some z => e = .returned (.tuple #[]) ∧ RrS v xs A n k g z.2 w' ∧ ∃ C nc kc S ns ks, Blk w' gp 27 (pkVs z.1 C nc kc S ns ks) ∧ NewAt v.v C ∧ NewAt v.v S ∧ PkM w' z.1 C nc kc S ns ks
/-- A packet that is read into. -/
def PkZ (w : World) (gp : Nat) (p : Pk) : Prop := Blk w gp 27 (pkVs p none 0 0 none 0 0)
theorem PkZ.but {w w' : World} {g gp : Nat} {p : Pk} (h : PkZ w gp p) (b : But (fun i => i = g) w w') (hne : ¬ gp = g) : PkZ w' gp p := (b.block gp h.lt hne).trans h
theorem RrS.other {v : Bs} {w w' : World} {xs : List UInt8} {A : Option Addr} {n k g gp : Nat} {ys : List UInt8} (h : RrS v xs A n k g ys w) (b : But (fun i => i = gp) w w') (hne : ¬ gp = g) (hvp : v.S gp) : RrS v xs A n k g ys w' := by
  obtain ⟨i, hB, hi, hd, hg, hv⟩ := h
  exact ⟨i, (b.block g hB.lt (fun e => hne e.symm)).trans hB, hi, hd, hg, hv.trans b (fun i _ e => by rw [e]; exact hvp)⟩
theorem PkZ.frozen {w : World} {gp : Nat} {p : Pk} (h : PkZ w gp p) (i : Nat) : w.frozen? ⟨gp, i, none⟩ = false := Blk.frozen h i

theorem RrS.keep {v : Bs} {w w' : World} {xs : List UInt8} {A : Option Addr} {n k g : Nat} {ys : List UInt8} (h : RrS v xs A n k g ys w) (b : Below w.heap.size w w') : RrS v xs A n k g ys w' := by
  obtain ⟨i, hB, hi, hd, hg, hv⟩ := h
  exact ⟨i, hB.keep b, hi, hd, hg, But.on hv b⟩
theorem RrPost.ok {α : Type} {f : FuncId} {args : Array Value} {w0 : World} {v : Bs} {xs : List UInt8} {A : Option Addr} {n k g : Nat} {o : Option (α × List UInt8)} {val : α → Value} {w : World} (h : Calls Try.prog f args w0 (RrPost v xs A n k g o val w)) {x : α} {t : List UInt8} (hq : o = some (x, t)) : Calls Try.prog f args w0 fun e w' => e = .returned (val x) ∧ RrS v xs A n k g t w' ∧ But (fun i => i = g) w w' := by
  rw [hq] at h
  exact h
theorem RrPost.no {α : Type} {f : FuncId} {args : Array Value} {w0 : World} {v : Bs} {xs : List UInt8} {A : Option Addr} {n k g : Nat} {o : Option (α × List UInt8)} {val : α → Value} {w : World} (h : Calls Try.prog f args w0 (RrPost v xs A n k g o val w)) (hq : o = none) : Calls Try.prog f args w0 fun e w' => e = .panicked gvP ∧ But v.S v.v w' := by
  rw [hq] at h
  exact h
theorem RrS.low {v : Bs} {w : World} {xs : List UInt8} {A : Option Addr} {n k g : Nat} {ys : List UInt8} (h : RrS v xs A n k g ys w) : But v.S v.v w := by
  obtain ⟨i, -, -, -, -, hv⟩ := h
  exact hv
theorem decF {a b : Int} (h : ¬ a ≤ b) : decide (a ≤ b) = false := decide_eq_false h

set_option maxRecDepth 100000 in
set_option maxHeartbeats 1000000 in
theorem rrWelcome_any (v : Bs) (xs : List UInt8) (A : Option Addr) (n k g gp : Nat) (ys : List UInt8) (w : World) (hb : RrB v xs A n k) (h : RrS v xs A n k g ys w) (hp : PkZ w gp (zeroP 2)) (hne : ¬ gp = g) (hvp : v.S gp) : Calls Try.prog 97 #[.pointer (some ⟨g, 0, none⟩), .pointer (some ⟨gp, 0, none⟩)] w (FPost v xs A n k g gp (welQ ys)) := by
  have P1 := rrOctet_any v xs A n k g ys w hb h
  have HP := hide hp
  clear h hp
  unfold welQ
  cases hq1 : qB ys with
  | none =>
    have Q1 := hide (RrPost.no P1 hq1)
    clear P1 hq1
    show Calls _ _ _ _ fun e w' => e = .panicked gvP ∧ But v.S v.v w'
    go_enter Try.func97, Try.ntmps97
    go_wp2_with fail
    refine Q1.out.mono ?_
    rintro e w1 ⟨rfl, hv1⟩
    go_wp2_with fail
    exact ⟨rfl, rfl, hv1⟩
  | some z =>
    obtain ⟨hd, y1⟩ := z
    have Q1 := hide (RrPost.ok P1 hq1)
    clear P1 hq1
    simp only [Option.bind_some]
    by_cases h1 : hd ≤ 1
    · rw [if_pos h1]
      have q1 : (hd : Int) ≤ 1 := by omega
      have P2 := fun W hW => rrOctet_any v xs A n k g y1 W hb hW
      have HD := hide (show ((hd : Int) == 1) = decide (hd = 1) by by_cases e : hd = 1 <;> simp [e] <;> omega)
      cases hq2 : qB y1 with
      | none =>
        have Q2 := fun W hW => hide (RrPost.no (P2 W hW) hq2)
        show Calls _ _ _ _ fun e w' => e = .panicked gvP ∧ But v.S v.v w'
        clear P2 hq2 h1
        go_enter Try.func97, Try.ntmps97
        go_wp2_with fail
        refine Q1.out.mono ?_
        rintro e w1 ⟨rfl, s1, b1⟩
        have HP1 := HP.out.but b1 hne
        have c15 := (Blk.p18 HP1).2.2.2.2.2.2.2.2.2.2.2.2.2.2.2.1
        have f15 := HP1.frozen 15
        have HP1 := hide HP1
        go_wp2_with fail
        refine (must_ok _ _).mono ?_
        rintro e w2 ⟨rfl, rfl⟩
        go_wp2_with fail
        refine (Q2 _ (s1.other (But.setCell _ _ rfl) hne hvp)).out.mono ?_
        rintro e w1 ⟨rfl, hv1⟩
        go_wp2_with fail
        exact ⟨rfl, rfl, hv1⟩
      | some z2 =>
        obtain ⟨c, y2⟩ := z2
        have Q2 := fun W hW => hide (RrPost.ok (P2 W hW) hq2)
        clear P2 hq2 h1
        show Calls _ _ _ _ fun e w' => e = .returned (.tuple #[]) ∧ RrS v xs A n k g y2 w' ∧ ∃ C nc kc S ns ks, Blk w' gp 27 (pkVs { zeroP 2 with present := decide (hd = 1), codes := [(c : Int)] } C nc kc S ns ks) ∧ NewAt v.v C ∧ NewAt v.v S ∧ PkM w' { zeroP 2 with present := decide (hd = 1), codes := [(c : Int)] } C nc kc S ns ks
        go_enter Try.func97, Try.ntmps97
        go_wp2_with fail
        refine Q1.out.mono ?_
        rintro e w1 ⟨rfl, s1, b1⟩
        have HP1 := HP.out.but b1 hne
        have c15 := (Blk.p18 HP1).2.2.2.2.2.2.2.2.2.2.2.2.2.2.2.1
        have f15 := HP1.frozen 15
        have HP1 := hide HP1
        go_wp2_with fail
        refine (must_ok _ _).mono ?_
        rintro e w2 ⟨rfl, rfl⟩
        go_wp2_with fail
        refine (Q2 _ (s1.other (But.setCell _ _ rfl) hne hvp)).out.mono ?_
        rintro e w2 ⟨rfl, s2, b2⟩
        have HP2 := PkZ.but (p := { zeroP 2 with present := decide (hd = 1) }) (show PkZ _ gp _ from by unfold PkZ; rw [← HD.out]; exact Blk.set HP1.out 15 _) b2 hne
        have c16 := (Blk.p18 HP2).2.2.2.2.2.2.2.2.2.2.2.2.2.2.2.2.1
        have f16 := HP2.frozen 16
        have l2 := Blk.lt HP2
        have HP2 := hide HP2
        go_wp2_with fail
        go_end0
        have hsz : ∀ u, (w2.setCell ⟨gp, 16, none⟩ u).heap.size = w2.heap.size := fun u => by simp
        refine ⟨rfl, (s2.other (But.setCell _ _ rfl) hne hvp).keep ((Below.refl _ _).alloc (Nat.le_refl _) _), some ⟨w2.heap.size, 0, none⟩, 1, 1, none, 0, 0, Blk.keep (Blk.set HP2.out 16 _) ((Below.refl _ _).alloc (Nat.le_refl _) _), (fun b o e => by injection e with e; injection e with e1; rw [← e1]; exact s2.low.size), NewAt.nil _, rfl, Nat.le_refl _, ?_, rfl, Nat.le_refl _, Rd.nil _ _⟩
        have := (Blk.new (w2.setCell ⟨gp, 16, none⟩ (.slice (some ⟨w2.heap.size, 0, none⟩) 1 1)) 3 [.int .i64 (c : Int)]).rd
        rw [hsz] at this
        exact this
    · rw [if_neg h1]
      have q1 : decide ((hd : Int) ≤ 1) = false := decF (by omega)
      show Calls _ _ _ _ fun e w' => e = .panicked gvP ∧ But v.S v.v w'
      go_enter Try.func97, Try.ntmps97
      go_wp2_with fail
      refine Q1.out.mono ?_
      rintro e w1 ⟨rfl, s1, b1⟩
      have hv1 := s1.low
      go_wp2_with fail
      refine (must_no _ _).mono ?_
      rintro e w2 ⟨rfl, rfl⟩
      go_wp2_with fail
      exact ⟨rfl, rfl, hv1⟩

end Go.Proofs.Ytjaaeiemgojnbaa
