/-
  What is proved here: packets as plain data (Pk): which may be (mayP), their bytes (layP), and how they are read (readP): what is laid down is read as itself, and no bytes of a packet are the beginning of another one's. Plain lists, nothing of the program. No condition.
-/
import Derived.Test.YtkgidimaiedocaaUt3
import Derived.Test.YtkgidimaiedocaaVtMath
import Derived.Test.YtkgidimaiedocaaWire
namespace Go.Proofs.Ytkgidimaiedocaa
set_option linter.unusedVariables false
set_option linter.unusedSimpArgs false
open Go.RowKit

/-- A packet. -/
structure Pk where
  ty : Int
  dup : Bool
  id : Int
  topic : List UInt8
  payload : List UInt8
  qos : Int
  retain : Bool
  client : List UInt8
  clean : Bool
  alive : Int
  hasWill : Bool
  hasUser : Bool
  hasPass : Bool
  user : List UInt8
  pass : List UInt8
  present : Bool
  codes : List Int
  subs : List (List UInt8 × Int)
deriving DecidableEq

/-- A packet of noughts but for its type. -/
def zeroP (t : Int) : Pk := ⟨t, false, 0, [], [], 0, false, [], false, 0, false, false, false, [], [], false, [], []⟩
/-- The fields that its type has a use for. -/
def usedP (p : Pk) : Pk :=
  if p.ty = 1 then ⟨p.ty, false, 0, if p.hasWill then p.topic else [], if p.hasWill then p.payload else [], if p.hasWill then p.qos else 0, if p.hasWill then p.retain else false, p.client, p.clean, p.alive, p.hasWill, p.hasUser, p.hasPass, if p.hasUser then p.user else [], if p.hasPass then p.pass else [], false, [], []⟩
  else if p.ty = 2 then { zeroP p.ty with present := p.present, codes := p.codes }
  else if p.ty = 3 then { zeroP p.ty with topic := p.topic, payload := p.payload, qos := p.qos, retain := p.retain, id := p.id, dup := p.dup }
  else if p.ty = 4 ∨ p.ty = 5 ∨ p.ty = 6 ∨ p.ty = 7 ∨ p.ty = 11 then { zeroP p.ty with id := p.id }
  else if p.ty = 8 ∨ p.ty = 10 then { zeroP p.ty with id := p.id, subs := p.subs }
  else if p.ty = 9 then { zeroP p.ty with id := p.id, codes := p.codes }
  else zeroP p.ty

/-- Is it a string? one that is not empty? -/
def isStr (xs : List UInt8) : Bool := (ptsU xs).isSome
def fullB (xs : List UInt8) : Bool := !xs.isEmpty && isStr xs
theorem isStr_len {xs : List UInt8} (h : isStr xs = true) : xs.length ≤ 65535 := by
  unfold isStr ptsU at h
  split at h
  · assumption
  · cases h
theorem fullB_len {xs : List UInt8} (h : fullB xs = true) : xs.length ≤ 65535 := by
  simp only [fullB, Bool.and_eq_true] at h
  exact isStr_len h.2
theorem isStr_nil : isStr [] = true := rfl

def idB (n : Int) : Bool := decide (1 ≤ n ∧ n ≤ 65535)
def conB (p : Pk) : Bool :=
  isStr p.client && decide (0 ≤ p.alive ∧ p.alive ≤ 65535) && !(p.hasPass && !p.hasUser) && isStr p.user && decide (p.pass.length ≤ 65535) &&
  (!p.hasWill || (fullB p.topic && decide (p.payload.length ≤ 65535) && decide (0 ≤ p.qos) && decide (p.qos ≤ 2)))
def subB (t : Int) (s : List UInt8 × Int) : Bool := fullB s.1 && decide (0 ≤ s.2 ∧ s.2 ≤ 2) && !(decide (t = 10) && decide (s.2 ≠ 0))
def subsB (p : Pk) : Bool := p.subs.all (subB p.ty) && !p.subs.isEmpty
def codeB (c : Int) : Bool := decide (0 ≤ c) && (decide (c ≤ 2) || decide (c = 128))
def codesB (p : Pk) : Bool := p.codes.all codeB && !p.codes.isEmpty
def ackB (p : Pk) : Bool := match p.codes with
  | [c] => decide (0 ≤ c) && decide (c ≤ 5) && !(p.present && decide (0 < c))
  | _ => false
def pubB (p : Pk) : Bool := fullB p.topic && decide (0 ≤ p.qos) && decide (p.qos ≤ 2) && ((decide (0 < p.qos) && idB p.id) || (decide (p.qos = 0) && decide (p.id = 0) && !p.dup))
/-- May its fields be? -/
def okP (p : Pk) : Bool :=
  if p.ty = 1 then conB p else if p.ty = 2 then ackB p else if p.ty = 3 then pubB p
  else if p.ty = 4 ∨ p.ty = 5 ∨ p.ty = 6 ∨ p.ty = 7 ∨ p.ty = 11 then idB p.id
  else if p.ty = 8 ∨ p.ty = 10 then idB p.id && subsB p else if p.ty = 9 then idB p.id && codesB p else true

def byteI (n : Int) : UInt8 := UInt8.ofNat n.toNat
def wordI (n : Int) : List UInt8 := word n.toNat
def textL (xs : List UInt8) : List UInt8 := word xs.length ++ xs
def flagB (b : Bool) (n : Nat) : Nat := if b then n else 0
def conFlags (p : Pk) : Nat := flagB p.clean 2 + flagB p.hasWill 4 + 8 * p.qos.toNat + flagB p.retain 32 + flagB p.hasPass 64 + flagB p.hasUser 128
def mqtt : List UInt8 := [0, 4, 77, 81, 84, 84]
def conBody (p : Pk) : List UInt8 :=
  mqtt ++ [4, UInt8.ofNat (conFlags p)] ++ wordI p.alive ++ textL p.client ++ (if p.hasWill then textL p.topic ++ textL p.payload else []) ++ (if p.hasUser then textL p.user else []) ++ (if p.hasPass then textL p.pass else [])
def subL (t : Int) (s : List UInt8 × Int) : List UInt8 := textL s.1 ++ (if t = 8 then [byteI s.2] else [])
def bodyP (p : Pk) : List UInt8 :=
  if p.ty = 1 then conBody p else if p.ty = 2 then [if p.present then 1 else 0, byteI (p.codes.headD 0)]
  else if p.ty = 3 then textL p.topic ++ (if 0 < p.qos then wordI p.id else []) ++ p.payload
  else if p.ty = 4 ∨ p.ty = 5 ∨ p.ty = 6 ∨ p.ty = 7 ∨ p.ty = 11 then wordI p.id
  else if p.ty = 8 ∨ p.ty = 9 ∨ p.ty = 10 then wordI p.id ++ p.subs.flatMap (subL p.ty) ++ p.codes.map byteI
  else []
def flagsP (p : Pk) : Nat := if p.ty = 3 then flagB p.dup 8 + 2 * p.qos.toNat + flagB p.retain 1 else if p.ty = 6 ∨ p.ty = 8 ∨ p.ty = 10 then 2 else 0
/-- May it be? -/
def mayP (p : Pk) : Bool := decide (1 ≤ p.ty ∧ p.ty ≤ 14) && decide (p = usedP p) && okP p && decide ((bodyP p).length ≤ 268435455)
/-- Its bytes. -/
def layP (p : Pk) : List UInt8 := UInt8.ofNat (16 * p.ty.toNat + flagsP p) :: (dg (bodyP p).length ++ bodyP p)

/-! ### Reading -/
abbrev Rdr := List UInt8 × Bool
def rB (s : Rdr) : Nat × Rdr := match s.1 with
  | [] => (0, ([], true))
  | c :: t => (c.toNat, (t, s.2))
def rW (s : Rdr) : Nat × Rdr := (256 * (rB s).1 + (rB (rB s).2).1, (rB (rB s).2).2)
def rT (s : Rdr) : List UInt8 × Rdr := if (rW s).2.1.length < (rW s).1 then ([], ((rW s).2.1, true)) else ((rW s).2.1.take (rW s).1, ((rW s).2.1.drop (rW s).1, (rW s).2.2))
def digB (n w : Nat) : Bool := decide (n / w % 2 = 1)

theorem word2 (n : Nat) (h : n ≤ 65535) (rest : List UInt8) (bad : Bool) : rW (word n ++ rest, bad) = (n, (rest, bad)) := by
  have e1 : (UInt8.ofNat (n / 256)).toNat = n / 256 := u8n (by omega)
  have e2 : (UInt8.ofNat (n % 256)).toNat = n % 256 := u8n (by omega)
  show rW (UInt8.ofNat (n / 256) :: UInt8.ofNat (n % 256) :: rest, bad) = _
  unfold rW
  simp only [rB, e1, e2]
  congr 1
  omega
theorem rT_text (xs : List UInt8) (h : xs.length ≤ 65535) (rest : List UInt8) (bad : Bool) : rT (textL xs ++ rest, bad) = (xs, (rest, bad)) := by
  unfold rT textL
  rw [List.append_assoc, word2 _ h]
  simp only [List.length_append]
  rw [if_neg (by omega)]
  simp
theorem rW_wordI (n : Int) (h0 : 0 ≤ n) (h : n ≤ 65535) (rest : List UInt8) (bad : Bool) : rW (wordI n ++ rest, bad) = (n.toNat, (rest, bad)) := word2 _ (by omega) _ _

/-- The filters that are read. -/
def subsR (t : Int) : Nat → Rdr → List (List UInt8 × Int) × Rdr
  | 0, s => ([], s)
  | k + 1, s => if s.1 ≠ [] ∧ s.2 = false then
      if t = 8 then (((rT s).1, ((rB (rT s).2).1 : Int)) :: (subsR t k (rB (rT s).2).2).1, (subsR t k (rB (rT s).2).2).2)
      else (((rT s).1, 0) :: (subsR t k (rT s).2).1, (subsR t k (rT s).2).2)
    else ([], s)
theorem textL_ne (xs : List UInt8) : textL xs ≠ [] := by simp [textL, word]
theorem textL_len (xs : List UInt8) : (textL xs).length = 2 + xs.length := by simp [textL, word]; omega
theorem byteI_toNat {n : Int} (h0 : 0 ≤ n) (h : n < 256) : ((byteI n).toNat : Int) = n := by
  unfold byteI
  rw [u8n (by omega)]
  omega
theorem subsR_lay (t : Int) (l : List (List UInt8 × Int)) (h : l.all (subB t) = true) (ht : t = 8 ∨ t = 10) : ∀ k, (l.flatMap (subL t)).length ≤ k → subsR t k (l.flatMap (subL t), false) = (l, ([], false)) := by
  induction l with
  | nil =>
    intro k _
    cases k <;> simp [subsR]
  | cons s l ih =>
    intro k hk
    simp only [List.all_cons, Bool.and_eq_true] at h
    obtain ⟨h1, h2⟩ := h
    obtain ⟨f, q⟩ := s
    simp only [subB, Bool.and_eq_true, decide_eq_true_eq, Bool.not_eq_true'] at h1
    have hf := fullB_len h1.1.1
    rw [List.flatMap_cons] at hk ⊢
    have hl := textL_len f
    unfold subL at hk ⊢
    rw [List.length_append, List.length_append, hl] at hk
    obtain ⟨j, rfl⟩ : ∃ j, k = j + 1 := ⟨k - 1, by omega⟩
    unfold subsR
    rw [if_pos ⟨by simp [textL, word], rfl⟩]
    by_cases h8 : t = 8
    · rw [if_pos h8, if_pos h8, List.append_assoc, rT_text f hf]
      have e : rB (([byteI q] ++ List.flatMap (subL t) l, false) : Rdr) = ((byteI q).toNat, (List.flatMap (subL t) l, false)) := rfl
      have hk' : (List.flatMap (subL t) l).length ≤ j := by
        rw [if_pos h8] at hk
        unfold subL
        simp at hk ⊢
        omega
      show (((f, _) : List UInt8 × Int) :: _, _) = _
      rw [show (rB (([byteI q] ++ List.flatMap (fun s => textL s.1 ++ if t = 8 then [byteI s.2] else []) l, false) : Rdr)) = ((byteI q).toNat, (List.flatMap (subL t) l, false)) from rfl]
      simp only
      rw [ih h2 j hk', byteI_toNat h1.1.2.1 (by omega)]
    · rw [if_neg h8, if_neg h8, List.append_assoc, rT_text f hf]
      have h10 : t = 10 := by omega
      have hq : q = 0 := by
        have := h1.2
        simp [h10] at this
        exact this
      have hk' : (List.flatMap (subL t) l).length ≤ j := by
        rw [if_neg h8] at hk
        unfold subL
        simp at hk ⊢
        omega
      simp only [List.nil_append]
      rw [show (List.flatMap (fun s => textL s.1 ++ if t = 8 then [byteI s.2] else []) l, false) = ((List.flatMap (subL t) l, false) : Rdr) from rfl, ih h2 j hk', hq]

/-- The fields of a Connect that are read. -/
def conR (s : Rdr) : Pk × Rdr :=
  let s2 := (rB (rT s).2).2
  let f := (rB s2).1
  let s3 := (rB s2).2
  let c := rT (rW s3).2
  let w1 := if digB f 4 then rT c.2 else ([], c.2)
  let w2 := if digB f 4 then rT w1.2 else ([], w1.2)
  let u := if digB f 128 then rT w2.2 else ([], w2.2)
  let q := if digB f 64 then rT u.2 else ([], u.2)
  (⟨1, false, 0, w1.1, w2.1, if digB f 4 then ((f / 8 % 4 : Nat) : Int) else 0, if digB f 4 then digB f 32 else false, c.1, digB f 2, ((rW s3).1 : Int), digB f 4, digB f 128, digB f 64, u.1, q.1, false, [], []⟩, q.2)
/-- What is read behind the length. -/
def bodyR (t first : Nat) (s : Rdr) : Pk × Rdr :=
  if t = 1 then conR s
  else if t = 2 then ({ zeroP 2 with present := digB (rB s).1 1, codes := [((rB (rB s).2).1 : Int)] }, (rB (rB s).2).2)
  else if t = 3 then
    let tp := rT s
    let i := if 0 < first / 2 % 4 then rW tp.2 else (0, tp.2)
    ({ zeroP 3 with dup := digB first 8, qos := ((first / 2 % 4 : Nat) : Int), retain := digB first 1, topic := tp.1, id := (i.1 : Int), payload := i.2.1 }, i.2)
  else if t = 4 ∨ t = 5 ∨ t = 6 ∨ t = 7 ∨ t = 11 then ({ zeroP t with id := ((rW s).1 : Int) }, (rW s).2)
  else if t = 8 ∨ t = 10 then
    let l := subsR t (rW s).2.1.length (rW s).2
    ({ zeroP t with id := ((rW s).1 : Int), subs := l.1 }, l.2)
  else if t = 9 then ({ zeroP 9 with id := ((rW s).1 : Int), codes := (rW s).2.1.map fun c => (c.toNat : Int) }, ([], (rW s).2.2))
  else (zeroP t, s)
/-- The packet whose bytes they are. -/
def readP (bs : List UInt8) : Option Pk :=
  if bs.length < 2 then none
  else if (atR bs 1).2.2 ≠ 0 then none
  else
    let r := bodyR ((bs.headD 0).toNat / 16) (bs.headD 0).toNat (bs.drop (atR bs 1).2.1, false)
    if r.2.2 = true ∨ mayP r.1 = false ∨ layP r.1 ≠ bs then none else some r.1

theorem conBits : ∀ (c w r a u : Bool) (q : Fin 3), let f := flagB c 2 + flagB w 4 + 8 * q.val + flagB r 32 + flagB a 64 + flagB u 128
    f < 256 ∧ digB f 2 = c ∧ digB f 4 = w ∧ digB f 32 = r ∧ digB f 64 = a ∧ digB f 128 = u ∧ f / 8 % 4 = q.val := by decide
theorem pubBits : ∀ (d r : Bool) (q : Fin 3), let f := 48 + (flagB d 8 + 2 * q.val + flagB r 1)
    f < 256 ∧ digB f 8 = d ∧ digB f 1 = r ∧ f / 2 % 4 = q.val ∧ f / 16 = 3 := by decide

theorem rT_if (b : Bool) (xs : List UInt8) (h : xs.length ≤ 65535) (hb : b = false → xs = []) (rest : List UInt8) : (if b = true then rT ((if b = true then textL xs else []) ++ rest, false) else ([], ((if b = true then textL xs else []) ++ rest, false))) = (xs, (rest, false)) := by
  cases b with
  | true => rw [if_pos rfl, if_pos rfl, rT_text xs h]
  | false => rw [if_neg (by simp), if_neg (by simp), hb rfl]; rfl

theorem conR_lay (p : Pk) (ht : p.ty = 1) (hu : p = usedP p) (h : conB p = true) : conR (conBody p, false) = (p, ([], false)) := by
  obtain ⟨ty, dup, id, topic, payload, qos, retain, client, clean, alive, hasWill, hasUser, hasPass, user, pass, present, codes, subs⟩ := p
  simp only at ht
  subst ht
  unfold usedP at hu
  rw [if_pos rfl] at hu
  simp only [Pk.mk.injEq, true_and] at hu
  obtain ⟨rfl, rfl, h1, h2, h3, h4, h5, h6, rfl, rfl, rfl⟩ := hu
  simp only [conB, Bool.and_eq_true, decide_eq_true_eq, Bool.not_eq_true'] at h
  obtain ⟨⟨⟨⟨⟨k1, k2⟩, k3⟩, k4⟩, k5⟩, k6⟩ := h
  have hq : 0 ≤ qos ∧ qos ≤ 2 := by
    cases hasWill with
    | false => simp at h3; omega
    | true => simp at k6; omega
  have htl : topic.length ≤ 65535 := by
    cases hasWill with
    | false => simp at h1; rw [h1]; simp
    | true => simp at k6; exact fullB_len k6.1.1.1
  have hpl : payload.length ≤ 65535 := by
    cases hasWill with
    | false => simp at h2; rw [h2]; simp
    | true => simp at k6; exact k6.1.1.2
  obtain ⟨q, rfl⟩ : ∃ q : Nat, qos = (q : Int) := ⟨qos.toNat, by omega⟩
  have hq2 : q < 3 := by omega
  have hB := conBits clean hasWill retain hasPass hasUser ⟨q, hq2⟩
  simp only at hB
  unfold conBody conFlags
  simp only [Int.toNat_natCast]
  obtain ⟨f, hf⟩ : ∃ f, flagB clean 2 + flagB hasWill 4 + 8 * q + flagB retain 32 + flagB hasPass 64 + flagB hasUser 128 = f := ⟨_, rfl⟩
  rw [hf] at hB ⊢
  obtain ⟨b0, b1, b2, b3, b4, b5, b6⟩ := hB
  unfold conR
  have e0 : ∀ rest, rT (mqtt ++ rest, false) = ([77, 81, 84, 84], (rest, false)) := fun rest => rT_text [77, 81, 84, 84] (by simp) rest false
  simp only [List.append_assoc]
  rw [e0]
  have e1 : ∀ rest : List UInt8, (rB ([4, UInt8.ofNat f] ++ rest, false)).2 = (UInt8.ofNat f :: rest, false) := fun _ => rfl
  simp only [e1]
  have e2 : ∀ rest : List UInt8, rB (UInt8.ofNat f :: rest, false) = (f, (rest, false)) := fun rest => by
    show ((UInt8.ofNat f).toNat, (rest, false)) = _
    rw [u8n b0]
  simp only [e2, b1, b2, b3, b4, b5, b6]
  simp only [rW_wordI alive k2.1 k2.2, rT_text client (isStr_len k1)]
  have e3 : ∀ rest : List UInt8, (if hasWill = true then textL topic ++ textL payload else []) ++ rest = (if hasWill = true then textL topic else []) ++ ((if hasWill = true then textL payload else []) ++ rest) := fun rest => by
    cases hasWill <;> simp
  rw [e3]
  rw [rT_if hasWill topic htl (fun hb => by rw [hb] at h1; simpa using h1)]
  simp only
  rw [rT_if hasWill payload hpl (fun hb => by rw [hb] at h2; simpa using h2)]
  simp only
  rw [rT_if hasUser user (isStr_len k4) (fun hb => by rw [hb] at h5; simpa using h5)]
  simp only
  have e4 := rT_if hasPass pass k5 (fun hb => by rw [hb] at h6; simpa using h6) []
  rw [List.append_nil] at e4
  rw [e4]
  simp only [Prod.mk.injEq, Pk.mk.injEq, true_and, and_true]
  refine ⟨h3.symm, h4.symm, ?_⟩
  omega

theorem map_byteI (l : List Int) (h : l.all codeB = true) : (l.map byteI).map (fun c => (c.toNat : Int)) = l := by
  induction l with
  | nil => rfl
  | cons c l ih =>
    simp only [List.all_cons, Bool.and_eq_true] at h
    have hc : 0 ≤ c ∧ c ≤ 128 := by
      have := h.1
      simp [codeB] at this
      omega
    simp only [List.map_cons]
    rw [byteI_toNat hc.1 (by omega), ih h.2]
theorem flagsP_lt (p : Pk) (h : okP p = true) : flagsP p < 16 := by
  unfold flagsP
  split
  · rename_i h3
    have hp : pubB p = true := by unfold okP at h; rw [if_neg (by omega), if_neg (by omega), if_pos h3] at h; exact h
    simp only [pubB, Bool.and_eq_true, decide_eq_true_eq] at hp
    have hd : flagB p.dup 8 ≤ 8 := by unfold flagB; split <;> omega
    have hr : flagB p.retain 1 ≤ 1 := by unfold flagB; split <;> omega
    omega
  · split <;> omega

/-- What stands behind the length is read as itself. -/
theorem bodyR_lay (p : Pk) (h1 : 1 ≤ p.ty ∧ p.ty ≤ 14) (hu : p = usedP p) (h : okP p = true) : bodyR p.ty.toNat (16 * p.ty.toNat + flagsP p) (bodyP p, false) = (p, ((bodyR p.ty.toNat (16 * p.ty.toNat + flagsP p) (bodyP p, false)).2.1, false)) := by
  have main : ∃ r, bodyR p.ty.toNat (16 * p.ty.toNat + flagsP p) (bodyP p, false) = (p, (r, false)) := by
    obtain ⟨ty, dup, id, topic, payload, qos, retain, client, clean, alive, hasWill, hasUser, hasPass, user, pass, present, codes, subs⟩ := p
    simp only at h1
    obtain ⟨t, rfl⟩ : ∃ t : Nat, ty = (t : Int) := ⟨ty.toNat, by omega⟩
    unfold okP at h
    unfold usedP at hu
    unfold bodyR bodyP flagsP
    simp only at h hu ⊢
    simp only [Int.toNat_natCast]
    by_cases c1 : t = 1
    · subst c1
      have tt : ((1 : Nat) : Int) = 1 := rfl
      rw [if_pos tt] at h
      refine ⟨[], ?_⟩
      rw [if_pos rfl, if_pos tt]
      have := conR_lay _ rfl (by unfold usedP; exact hu) h
      exact this
    have n1 : ¬ (t : Int) = 1 := by omega
    rw [if_neg n1] at h hu
    rw [if_neg c1, if_neg n1]
    by_cases c2 : t = 2
    · subst c2
      have tt : ((2 : Nat) : Int) = 2 := rfl
      rw [if_pos tt] at h hu
      rw [if_pos rfl, if_pos tt]
      simp only [zeroP, Pk.mk.injEq, true_and] at hu
      obtain ⟨rfl, rfl, rfl, rfl, rfl, rfl, rfl, rfl, rfl, rfl, rfl, rfl, rfl, rfl, _, _, rfl⟩ := hu
      match codes, h with
      | [c], h =>
        simp only [ackB, Bool.and_eq_true, decide_eq_true_eq, Bool.not_eq_true'] at h
        refine ⟨[], ?_⟩
        have e1 : ∀ x y : UInt8, rB (([x, y], false) : Rdr) = (x.toNat, ([y], false)) := fun _ _ => rfl
        have e2 : ∀ y : UInt8, rB (([y], false) : Rdr) = (y.toNat, ([], false)) := fun _ => rfl
        simp only [e1, e2, List.headD_cons, byteI_toNat h.1.1 (by omega)]
        have hpr : digB (if present = true then (1 : UInt8) else 0).toNat 1 = present := by cases present <;> decide
        simp only [hpr, zeroP]
        rfl
    have n2 : ¬ (t : Int) = 2 := by omega
    rw [if_neg n2] at h hu
    rw [if_neg c2, if_neg n2]
    by_cases c3 : t = 3
    · subst c3
      have tt : ((3 : Nat) : Int) = 3 := rfl
      rw [if_pos tt] at h hu
      rw [if_pos rfl, if_pos tt, if_pos tt]
      simp only [zeroP, Pk.mk.injEq, true_and, and_true] at hu
      obtain ⟨rfl, rfl, rfl, rfl, rfl, rfl, rfl, rfl, rfl, rfl, rfl⟩ := hu
      simp only [pubB, Bool.and_eq_true, decide_eq_true_eq] at h
      obtain ⟨⟨⟨k1, k2⟩, k3⟩, k4⟩ := h
      obtain ⟨q, rfl⟩ : ∃ q : Nat, qos = (q : Int) := ⟨qos.toNat, by omega⟩
      have hB := pubBits dup retain ⟨q, by omega⟩
      simp only at hB
      simp only [Int.toNat_natCast, Nat.reduceMul]
      obtain ⟨f, hf⟩ : ∃ f, 48 + (flagB dup 8 + 2 * q + flagB retain 1) = f := ⟨_, rfl⟩
      simp only [hf] at hB ⊢
      obtain ⟨_, b1, b2, b3, _⟩ := hB
      rw [List.append_assoc, rT_text topic (fullB_len k1)]
      simp only [b1, b2, b3]
      by_cases hq : 0 < q
      · have hq' : (0 : Int) < (q : Int) := by omega
        have hid : 1 ≤ id ∧ id ≤ 65535 := by
          have hq0 : ¬ (q : Int) = 0 := by omega
          simp [hq', hq0, idB] at k4
          rcases k4 with k4 | k4 <;> omega
        rw [if_pos hq, if_pos hq', rW_wordI id (by omega) hid.2]
        refine ⟨payload, ?_⟩
        simp only [zeroP]
        rw [show ((id.toNat : Nat) : Int) = id by omega]
        rfl
      · have hq0 : q = 0 := by omega
        subst hq0
        rw [if_neg (by omega), if_neg (by omega)]
        have hid : id = 0 := by
          simp at k4
          exact k4.1
        refine ⟨payload, ?_⟩
        simp only [zeroP, List.nil_append]
        rw [hid]
        rfl
    have n3 : ¬ (t : Int) = 3 := by omega
    rw [if_neg n3] at h hu
    rw [if_neg c3, if_neg n3]
    by_cases c4 : t = 4 ∨ t = 5 ∨ t = 6 ∨ t = 7 ∨ t = 11
    · have c4' : (t : Int) = 4 ∨ (t : Int) = 5 ∨ (t : Int) = 6 ∨ (t : Int) = 7 ∨ (t : Int) = 11 := by omega
      rw [if_pos c4'] at h hu
      rw [if_pos c4, if_pos c4']
      simp only [zeroP, Pk.mk.injEq, true_and] at hu
      obtain ⟨rfl, rfl, rfl, rfl, rfl, rfl, rfl, rfl, rfl, rfl, rfl, rfl, rfl, rfl, rfl, rfl⟩ := hu
      simp only [idB, decide_eq_true_eq] at h
      have := rW_wordI id (by omega) h.2 [] false
      rw [List.append_nil] at this
      rw [this]
      refine ⟨[], ?_⟩
      simp only [zeroP]
      rw [show ((id.toNat : Nat) : Int) = id by omega]
    have n4 : ¬ ((t : Int) = 4 ∨ (t : Int) = 5 ∨ (t : Int) = 6 ∨ (t : Int) = 7 ∨ (t : Int) = 11) := by omega
    rw [if_neg n4] at h hu
    rw [if_neg c4, if_neg n4]
    by_cases c5 : t = 8 ∨ t = 10
    · have c5' : (t : Int) = 8 ∨ (t : Int) = 10 := by omega
      rw [if_pos c5'] at h hu
      rw [if_pos c5, if_pos (by omega)]
      simp only [zeroP, Pk.mk.injEq, true_and, and_true] at hu
      obtain ⟨rfl, rfl, rfl, rfl, rfl, rfl, rfl, rfl, rfl, rfl, rfl, rfl, rfl, rfl, rfl⟩ := hu
      simp only [idB, subsB, Bool.and_eq_true, decide_eq_true_eq] at h
      rw [List.map_nil, List.append_nil, rW_wordI id (by omega) h.1.2]
      simp only
      rw [subsR_lay t subs h.2.1 c5' _ (Nat.le_refl _)]
      refine ⟨[], ?_⟩
      simp only [zeroP]
      rw [show ((id.toNat : Nat) : Int) = id by omega]
    have n5 : ¬ ((t : Int) = 8 ∨ (t : Int) = 10) := by omega
    rw [if_neg n5] at h hu
    rw [if_neg c5]
    by_cases c6 : t = 9
    · subst c6
      have tt : ((9 : Nat) : Int) = 9 := rfl
      rw [if_pos tt] at h hu
      rw [if_pos rfl, if_pos (by omega)]
      simp only [zeroP, Pk.mk.injEq, true_and, and_true] at hu
      obtain ⟨rfl, rfl, rfl, rfl, rfl, rfl, rfl, rfl, rfl, rfl, rfl, rfl, rfl, rfl, rfl⟩ := hu
      simp only [idB, codesB, Bool.and_eq_true, decide_eq_true_eq] at h
      rw [List.flatMap_nil, List.append_nil, rW_wordI id (by omega) h.1.2]
      simp only [map_byteI codes h.2.1]
      refine ⟨[], ?_⟩
      simp only [zeroP]
      rw [show ((id.toNat : Nat) : Int) = id by omega]
      rfl
    have n6 : ¬ (t : Int) = 9 := by omega
    rw [if_neg n6] at hu
    rw [if_neg c6, if_neg (by omega)]
    refine ⟨[], ?_⟩
    rw [hu]
  obtain ⟨r, hr⟩ := main
  rw [hr]

theorem mayP_parts {p : Pk} (h : mayP p = true) : (1 ≤ p.ty ∧ p.ty ≤ 14) ∧ p = usedP p ∧ okP p = true ∧ (bodyP p).length ≤ 268435455 := by
  simp only [mayP, Bool.and_eq_true, decide_eq_true_eq] at h
  exact ⟨h.1.1.1, h.1.1.2, h.1.2, h.2⟩
theorem lay_first {p : Pk} (h : mayP p = true) : (UInt8.ofNat (16 * p.ty.toNat + flagsP p)).toNat = 16 * p.ty.toNat + flagsP p ∧ flagsP p < 16 := by
  obtain ⟨h1, _, h3, _⟩ := mayP_parts h
  have := flagsP_lt p h3
  exact ⟨u8n (by omega), this⟩
theorem lay_at (p : Pk) (h : (bodyP p).length ≤ 268435455) (more : List UInt8) : atR (layP p ++ more) 1 = ((bodyP p).length, 1 + (dg (bodyP p).length).length, 0) := by
  have h4 : (dg (bodyP p).length).length ≤ 4 := by rw [dg_length _ h]; exact (dgL_le _).2
  unfold atR layP
  rw [List.cons_append, List.drop_succ_cons, List.drop_zero, List.append_assoc, List.take_append, List.take_of_length_le h4, atV_dg _ 0 0 _ (.inl rfl)]
  simp
/-- What is laid down is read as itself. -/
theorem readP_lay {p : Pk} (h : mayP p = true) : readP (layP p) = some p := by
  obtain ⟨h1, h2, h3, h4⟩ := mayP_parts h
  obtain ⟨f1, f2⟩ := lay_first h
  have ha := lay_at p h4 []
  rw [List.append_nil] at ha
  have hd : (layP p).drop (1 + (dg (bodyP p).length).length) = bodyP p := by
    unfold layP
    rw [Nat.add_comm, List.drop_succ_cons, List.drop_left]
  have hl : ¬ (layP p).length < 2 := by
    have : 1 ≤ (dg (bodyP p).length).length := by rw [dg_length _ h4]; exact (dgL_le _).1
    unfold layP
    simp
    omega
  unfold readP
  rw [if_neg hl, ha, if_neg (by simp)]
  simp only
  rw [hd]
  have hh : (layP p).headD 0 = UInt8.ofNat (16 * p.ty.toNat + flagsP p) := rfl
  rw [hh, f1, show (16 * p.ty.toNat + flagsP p) / 16 = p.ty.toNat by omega, bodyR_lay p h1 h2 h3]
  rw [if_neg (by simp [h])]
theorem readP_some {bs : List UInt8} {p : Pk} (h : readP bs = some p) : mayP p = true ∧ layP p = bs := by
  unfold readP at h
  split at h
  · cases h
  split at h
  · cases h
  · simp only at h
    split at h
    · cases h
    · rename_i hc
      injection h with h
      subst h
      simp only [not_or] at hc
      exact ⟨by simpa using hc.2.1, by simpa using hc.2.2⟩
theorem readP_iff (bs : List UInt8) (p : Pk) : readP bs = some p ↔ mayP p = true ∧ layP p = bs :=
  ⟨readP_some, fun h => by rw [← h.2]; exact readP_lay h.1⟩
theorem lay_inj {p q : Pk} (hp : mayP p = true) (hq : mayP q = true) (h : layP p = layP q) : p = q := by
  have := readP_lay hp
  rw [h, readP_lay hq] at this
  exact (Option.some.inj this).symm
theorem lay_len {p : Pk} : (layP p).length = 1 + (dg (bodyP p).length).length + (bodyP p).length := by
  unfold layP
  simp
  omega
/-- No bytes of a packet are the beginning of another one's. -/
theorem lay_alone {p q : Pk} (hp : mayP p = true) (hq : mayP q = true) {more : List UInt8} (h : layP p ++ more = layP q) : more = [] := by
  have h1 := lay_at p (mayP_parts hp).2.2.2 more
  have h2 := lay_at q (mayP_parts hq).2.2.2 []
  rw [h] at h1
  rw [List.append_nil, h1] at h2
  simp only [Prod.mk.injEq, and_true] at h2
  have e := congrArg List.length h
  rw [List.length_append, lay_len, lay_len] at e
  exact List.eq_nil_of_length_eq_zero (by omega)
theorem readP_more {p : Pk} (hp : mayP p = true) {more : List UInt8} (h : more ≠ []) : readP (layP p ++ more) = none := by
  cases hr : readP (layP p ++ more) with
  | none => rfl
  | some q =>
    obtain ⟨h1, h2⟩ := readP_some hr
    exact absurd (lay_alone hp h1 h2.symm) h
theorem readP_less {p : Pk} (hp : mayP p = true) (i : Nat) (h : i < (layP p).length) : readP ((layP p).take i) = none := by
  cases hr : readP ((layP p).take i) with
  | none => rfl
  | some q =>
    obtain ⟨h1, h2⟩ := readP_some hr
    have : layP q ++ (layP p).drop i = layP p := by rw [h2, List.take_append_drop]
    have h3 := lay_alone h1 hp this
    have := congrArg List.length h3
    simp at this
    omega

end Go.Proofs.Ytkgidimaiedocaa
