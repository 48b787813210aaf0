/-
  What is defined here: requests and answers as bytes, as plain functions of numbers and lists (nothing of the program is named).
-/
import Derived.Test.YtfpfijggmfeejaaWire
import Derived.Test.YtfpfijggmfeejaaRefA
namespace Go.Proofs.Ytfpfijggmfeejaa
set_option linter.unusedVariables false
set_option linter.unusedSimpArgs false
open Go.RowKit

theorem ne_beq {a b : Int} (h : ¬ a = b) : (a == b) = false := by rw [beq_eq_false_iff_ne]; exact h
theorem ne_bne {a b : Int} (h : ¬ a = b) : (a != b) = true := by rw [bne_iff_ne]; exact h

def isW (n : Int) : Bool := decide (0 ≤ n) && decide (n ≤ 65535)
def liesB (at_ n most : Int) : Bool := decide (1 ≤ n) && decide (n ≤ most) && decide (0 ≤ at_) && decide (at_ + n ≤ 65536)
def upToB (vs : List Int) (top : Int) : Bool := vs.all fun v => decide (0 ≤ v) && decide (v ≤ top)
def plainB (an o : Int) : Bool := an == 0 && o == 0
def readsB (a c : Int) (n : Nat) (t an o most : Int) : Bool := liesB a c most && n == 0 && t == 0 && plainB an o
def oneB (a c : Int) (vs : List Int) (t an o top : Int) : Bool := isW a && c == 0 && vs.length == 1 && upToB vs top && t == 0 && plainB an o
def manyB (a c : Int) (vs : List Int) (t an o most top : Int) : Bool := c == (vs.length : Int) && liesB a c most && upToB vs top && t == 0 && plainB an o
def masksB (a c : Int) (n : Nat) (t an o : Int) : Bool := isW a && isW an && isW o && c == 0 && n == 0 && t == 0
def swapsB (a c : Int) (vs : List Int) (t an o : Int) : Bool := liesB a c 125 && liesB t vs.length 121 && upToB vs 65535 && plainB an o
/-- May a request be? -/
def mayB (f a c : Int) (vs : List Int) (t an o : Int) : Bool :=
  if f = 1 ∨ f = 2 then readsB a c vs.length t an o 2000
  else if f = 3 ∨ f = 4 then readsB a c vs.length t an o 125
  else if f = 5 then oneB a c vs t an o 1
  else if f = 6 then oneB a c vs t an o 65535
  else if f = 15 then manyB a c vs t an o 1968 1
  else if f = 16 then manyB a c vs t an o 123 65535
  else if f = 22 then masksB a c vs.length t an o
  else if f = 23 then swapsB a c vs t an o
  else false
/-- Words, one behind the other. -/
def putL (vs : List Int) : List UInt8 := vs.flatMap fun v => word v.toNat
/-- A byte that says how many, and the bytes. -/
def cntL (l : List UInt8) : List UInt8 := UInt8.ofNat l.length :: l
/-- The bytes of a request that may be. -/
def layL (f a c : Int) (vs : List Int) (t an o : Int) : List UInt8 :=
  UInt8.ofNat f.toNat ::
    (if f = 5 then putL [a, 65280 * vs.headD 0]
     else if f = 6 then putL [a, vs.headD 0]
     else if f = 22 then putL [a, an, o]
     else if f = 15 then putL [a, c] ++ cntL (packL vs)
     else if f = 16 then putL [a, c] ++ cntL (putL vs)
     else if f = 23 then putL [a, c, t, (vs.length : Int)] ++ cntL (putL vs)
     else putL [a, c])
/-- May an answer to a request be? -/
def ansMayB (f c code : Int) (vs : List Int) : Bool :=
  if code = 0 then
    if f = 1 ∨ f = 2 then (vs.length : Int) == c && upToB vs 1
    else if f = 3 ∨ f = 4 ∨ f = 23 then (vs.length : Int) == c && upToB vs 65535
    else vs.length == 0
  else decide (0 < code) && decide (code ≤ 255) && vs.length == 0
/-- The bytes of an answer that may be. -/
def ansL (f a c : Int) (vs : List Int) (t an o code : Int) (us : List Int) : List UInt8 :=
  if code = 0 then
    if f = 1 ∨ f = 2 then UInt8.ofNat f.toNat :: cntL (packL us)
    else if f = 3 ∨ f = 4 ∨ f = 23 then UInt8.ofNat f.toNat :: cntL (putL us)
    else if f = 15 ∨ f = 16 then UInt8.ofNat f.toNat :: putL [a, c]
    else layL f a c vs t an o
  else [UInt8.ofNat (f + 128).toNat, UInt8.ofNat code.toNat]
/-- The word at i; 0, where there is none. -/
def wAt (b : List UInt8) (i : Nat) : Int := if i + 2 ≤ b.length then 256 * ((b[i]?.getD 0).toNat : Int) + ((b[i + 1]?.getD 0).toNat : Int) else 0
/-- All whole words. -/
def wordsL : List UInt8 → List Int
  | x :: y :: r => (256 * (x.toNat : Int) + (y.toNat : Int)) :: wordsL r
  | _ => []
/-- n bits of the bytes; none, where there are not so many. -/
def bitsL (b : List UInt8) (n : Nat) : List Int := if n ≤ 8 * b.length then unpackL b n else []

/-- A struct of seven cells in memory. -/
theorem Blk.seven {w : World} {g : Nat} {t : TypeId} {v0 v1 v2 v3 v4 v5 v6 : Value} (h : Blk w g t [v0, v1, v2, v3, v4, v5, v6]) :
    w.cell? ⟨g, 0, none⟩ = some v0 ∧ w.cell? ⟨g, 1, none⟩ = some v1 ∧ w.cell? ⟨g, 2, none⟩ = some v2 ∧ w.cell? ⟨g, 3, none⟩ = some v3 ∧ w.cell? ⟨g, 4, none⟩ = some v4 ∧ w.cell? ⟨g, 5, none⟩ = some v5 ∧ w.cell? ⟨g, 6, none⟩ = some v6 :=
  ⟨h.cell 0, h.cell 1, h.cell 2, h.cell 3, h.cell 4, h.cell 5, h.cell 6⟩
theorem Blk.two {w : World} {g : Nat} {t : TypeId} {v0 v1 : Value} (h : Blk w g t [v0, v1]) : w.cell? ⟨g, 0, none⟩ = some v0 ∧ w.cell? ⟨g, 1, none⟩ = some v1 := ⟨h.cell 0, h.cell 1⟩

end Go.Proofs.Ytfpfijggmfeejaa
