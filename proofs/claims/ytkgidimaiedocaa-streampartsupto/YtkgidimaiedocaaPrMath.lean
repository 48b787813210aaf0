/-
  What is proved here: a reader of packets that gives up (readQ: the program's), as plain functions: what it reads and may be is just what readP reads. Plain lists, nothing of the program. No condition. ALSO: what is laid down is read by the reader that gives up (readQ) as itself; with that readQ, and whether it may be, is readP. Plain lists, nothing of the program. No condition. ALSO: what the reader that gives up takes from at most 65535 bytes is short. Plain lists, nothing of the program.
-/
import Derived.Test.YtkgidimaiedocaaPkMath
import Derived.Test.YtkgidimaiedocaaPkD
namespace Go.Proofs.Ytkgidimaiedocaa
set_option linter.unusedVariables false
set_option linter.unusedSimpArgs false
open Go.RowKit

def qB : List UInt8 → Option (Nat × List UInt8)
  | [] => none
  | c :: t => some (c.toNat, t)
def qW : List UInt8 → Option (Nat × List UInt8)
  | c :: d :: t => some (256 * c.toNat + d.toNat, t)
  | _ => none
def qT (ys : List UInt8) : Option (List UInt8 × List UInt8) := match qW ys with
  | none => none
  | some z => if z.2.length < z.1 then none else some (z.2.take z.1, z.2.drop z.1)
def oT (b : Bool) (ys : List UInt8) : Option (List UInt8 × List UInt8) := if b then qT ys else some ([], ys)
/-- What the byte of a Connect tells. -/
def conP (f : Nat) : Pk := ⟨1, false, 0, [], [], ((f / 8 % 4 : Nat) : Int), digB f 32, [], digB f 2, 0, digB f 4, digB f 128, digB f 64, [], [], false, [], []⟩
def conQ (ys : List UInt8) : Option (Pk × List UInt8) :=
  (qT ys).bind fun a => if a.1 = [77, 81, 84, 84] then
    (qB a.2).bind fun l => if l.1 = 4 then
      (qB l.2).bind fun f => if conFlags (conP f.1) = f.1 then
        (qW f.2).bind fun al => (qT al.2).bind fun cl => (oT (digB f.1 4) cl.2).bind fun tp => (oT (digB f.1 4) tp.2).bind fun pl => (oT (digB f.1 128) pl.2).bind fun us => (oT (digB f.1 64) us.2).bind fun ps =>
          some ({ conP f.1 with topic := tp.1, payload := pl.1, client := cl.1, alive := (al.1 : Int), user := us.1, pass := ps.1 }, ps.2)
      else none
    else none
  else none
def welQ (ys : List UInt8) : Option (Pk × List UInt8) :=
  (qB ys).bind fun h => if h.1 ≤ 1 then (qB h.2).bind fun c => some ({ zeroP 2 with present := decide (h.1 = 1), codes := [(c.1 : Int)] }, c.2) else none
def pubQ (low : Nat) (ys : List UInt8) : Option (Pk × List UInt8) :=
  (qT ys).bind fun tp => (if 0 < low / 2 % 4 then qW tp.2 else some (0, tp.2)).bind fun i =>
    some ({ zeroP 3 with dup := digB low 8, qos := ((low / 2 % 4 : Nat) : Int), retain := digB low 1, topic := tp.1, id := (i.1 : Int), payload := i.2 }, [])
def ackQ (t : Nat) (ys : List UInt8) : Option (Pk × List UInt8) := (qW ys).bind fun i => some ({ zeroP t with id := (i.1 : Int) }, i.2)
/-- One filter. -/
def subQ (qos : Bool) (ys : List UInt8) : Option ((List UInt8 × Int) × List UInt8) :=
  (qT ys).bind fun f => if qos then (qB f.2).bind fun q => some ((f.1, (q.1 : Int)), q.2) else some ((f.1, 0), f.2)
def subsQ (qos : Bool) : Nat → List UInt8 → Option (List (List UInt8 × Int))
  | 0, ys => if ys = [] then some [] else none
  | k + 1, ys => if ys = [] then some [] else (subQ qos ys).bind fun s => (subsQ qos k s.2).bind fun l => some (s.1 :: l)
def namQ (t : Nat) (qos : Bool) (ys : List UInt8) : Option (Pk × List UInt8) :=
  (qW ys).bind fun i => (subsQ qos i.2.length i.2).bind fun l => some ({ zeroP t with id := (i.1 : Int), subs := l }, [])
def codQ (ys : List UInt8) : Option (Pk × List UInt8) := (qW ys).bind fun i => some ({ zeroP 9 with id := (i.1 : Int), codes := i.2.map fun c => (c.toNat : Int) }, [])
def fieldsQ (t low : Nat) (ys : List UInt8) : Option (Pk × List UInt8) :=
  if t = 1 then conQ ys else if t = 2 then welQ ys else if t = 3 then pubQ low ys
  else if t = 4 ∨ t = 5 ∨ t = 6 ∨ t = 7 ∨ t = 11 then ackQ t ys else if t = 8 then namQ 8 true ys else if t = 9 then codQ ys else if t = 10 then namQ 10 false ys else some (zeroP t, ys)
def endQ (low : Nat) (z : Pk × List UInt8) : Option Pk := if z.2 = [] ∧ flagsP z.1 = low then some z.1 else none
def readQ (bs : List UInt8) : Option Pk :=
  (qB bs).bind fun first => if (atR bs 1).2.2 ≠ 0 then none else if (atR bs 1).1 ≠ (bs.drop (atR bs 1).2.1).length then none else
    (fieldsQ (first.1 / 16) (first.1 % 16) (bs.drop (atR bs 1).2.1)).bind (endQ (first.1 % 16))
def parseQ (bs : List UInt8) : Option Pk := match readQ bs with
  | none => none
  | some p => if mayP p = true then some p else none

/-! ### What was taken stood there -/
theorem qB_some {ys : List UInt8} {z : Nat × List UInt8} (h : qB ys = some z) : ys = UInt8.ofNat z.1 :: z.2 ∧ z.1 < 256 := by
  cases ys with
  | nil => cases h
  | cons c t =>
    injection h with h
    subst h
    exact ⟨by simp, c.toNat_lt⟩
theorem qW_some {ys : List UInt8} {z : Nat × List UInt8} (h : qW ys = some z) : ys = word z.1 ++ z.2 ∧ z.1 ≤ 65535 := by
  match ys, h with
  | c :: d :: t, h =>
    injection h with h
    subst h
    have := c.toNat_lt
    have := d.toNat_lt
    refine ⟨?_, by simp only; omega⟩
    show c :: d :: t = UInt8.ofNat ((256 * c.toNat + d.toNat) / 256) :: UInt8.ofNat ((256 * c.toNat + d.toNat) % 256) :: t
    rw [show (256 * c.toNat + d.toNat) / 256 = c.toNat by omega, show (256 * c.toNat + d.toNat) % 256 = d.toNat by omega]
    simp
theorem qT_some {ys : List UInt8} {z : List UInt8 × List UInt8} (h : qT ys = some z) : ys = textL z.1 ++ z.2 ∧ z.1.length ≤ 65535 := by
  unfold qT at h
  cases hw : qW ys with
  | none => rw [hw] at h; cases h
  | some w =>
    rw [hw] at h
    obtain ⟨e, l⟩ := qW_some hw
    simp only at h
    split at h
    · cases h
    · rename_i hl
      injection h with h
      subst h
      have hk : (w.2.take w.1).length = w.1 := by rw [List.length_take]; omega
      refine ⟨?_, by simp only [hk]; exact l⟩
      unfold textL
      rw [hk, List.append_assoc, List.take_append_drop]
      exact e
theorem oT_some {b : Bool} {ys : List UInt8} {z : List UInt8 × List UInt8} (h : oT b ys = some z) : ys = (if b = true then textL z.1 else []) ++ z.2 ∧ z.1.length ≤ 65535 ∧ (b = false → z.1 = []) := by
  unfold oT at h
  cases b with
  | true =>
    rw [if_pos rfl] at h
    obtain ⟨e, l⟩ := qT_some h
    exact ⟨by rw [if_pos rfl]; exact e, l, fun h => by cases h⟩
  | false =>
    rw [if_neg (by simp)] at h
    injection h with h
    subst h
    exact ⟨by simp, by simp, fun _ => rfl⟩
theorem qB_of (n : Nat) (h : n < 256) (t : List UInt8) : qB (UInt8.ofNat n :: t) = some (n, t) := by
  show some ((UInt8.ofNat n).toNat, t) = _
  rw [u8n h]
theorem qW_of (n : Nat) (h : n ≤ 65535) (t : List UInt8) : qW (word n ++ t) = some (n, t) := by
  show some (256 * (UInt8.ofNat (n / 256)).toNat + (UInt8.ofNat (n % 256)).toNat, t) = _
  rw [u8n (by omega), u8n (by omega)]
  congr 2
  omega
theorem qT_of (xs : List UInt8) (h : xs.length ≤ 65535) (t : List UInt8) : qT (textL xs ++ t) = some (xs, t) := by
  unfold qT textL
  rw [List.append_assoc, qW_of _ h]
  simp
theorem oT_of (b : Bool) (xs : List UInt8) (h : xs.length ≤ 65535) (hb : b = false → xs = []) (t : List UInt8) : oT b ((if b = true then textL xs else []) ++ t) = some (xs, t) := by
  cases b with
  | true => unfold oT; rw [if_pos rfl, if_pos rfl, qT_of xs h]
  | false => rw [hb rfl]; rfl

theorem digB_lt (f : Nat) : digB f 1 = decide (f % 2 = 1) := by unfold digB; simp

/-! ### What is read is laid down so -/
theorem conQ_some {ys : List UInt8} {z : Pk × List UInt8} (h : conQ ys = some z) : ys = conBody z.1 ++ z.2 ∧ z.1.ty = 1 := by
  unfold conQ at h
  simp only [Option.bind_eq_some_iff] at h
  obtain ⟨a, ha, h⟩ := h
  split at h
  · rename_i h1
    obtain ⟨l, hl, h⟩ := Option.bind_eq_some_iff.1 h
    split at h
    · rename_i h2
      obtain ⟨f, hf, h⟩ := Option.bind_eq_some_iff.1 h
      split at h
      · rename_i h3
        obtain ⟨al, hal, h⟩ := Option.bind_eq_some_iff.1 h
        obtain ⟨cl, hcl, h⟩ := Option.bind_eq_some_iff.1 h
        obtain ⟨tp, htp, h⟩ := Option.bind_eq_some_iff.1 h
        obtain ⟨pl, hpl, h⟩ := Option.bind_eq_some_iff.1 h
        obtain ⟨us, hus, h⟩ := Option.bind_eq_some_iff.1 h
        obtain ⟨ps, hps, h⟩ := Option.bind_eq_some_iff.1 h
        injection h with h
        subst h
        have e1 := (qT_some ha).1
        have e2 := (qB_some hl).1
        have e3 := (qB_some hf).1
        have e4 := (qW_some hal).1
        have e5 := (qT_some hcl).1
        have e6 := (oT_some htp).1
        have e7 := (oT_some hpl).1
        have e8 := (oT_some hus).1
        have e9 := (oT_some hps).1
        rw [h1] at e1
        rw [h2] at e2
        refine ⟨?_, rfl⟩
        simp only
        rw [e1, e2, e3, e4, e5, e6, e7, e8, e9]
        have h3' : conFlags { conP f.1 with topic := tp.1, payload := pl.1, client := cl.1, alive := (al.1 : Int), user := us.1, pass := ps.1 } = f.1 := h3
        unfold conBody
        rw [h3']
        simp only [conP, wordI, Int.toNat_natCast]
        have hm : textL [77, 81, 84, 84] = mqtt := rfl
        rw [hm]
        have h4 : UInt8.ofNat 4 = 4 := rfl
        rw [h4]
        by_cases hd : digB f.1 4 = true <;> simp [hd] <;> rfl
      · cases h
    · cases h
  · cases h

theorem subQ_some {t : Nat} {q : Bool} (ht : q = true ↔ t = 8) {ys : List UInt8} {z : (List UInt8 × Int) × List UInt8} (h : subQ q ys = some z) : ys = subL t z.1 ++ z.2 := by
  unfold subQ at h
  obtain ⟨f, hf, h⟩ := Option.bind_eq_some_iff.1 h
  have e1 := (qT_some hf).1
  split at h
  · rename_i hq
    obtain ⟨c, hc, h⟩ := Option.bind_eq_some_iff.1 h
    injection h with h
    subst h
    have e2 := (qB_some hc).1
    unfold subL
    rw [if_pos (by have := ht.1 hq; omega)]
    show ys = (textL f.1 ++ [UInt8.ofNat ((c.1 : Nat) : Int).toNat]) ++ c.2
    rw [Int.toNat_natCast, e1, e2]
    simp
  · rename_i hq
    injection h with h
    subst h
    unfold subL
    rw [if_neg (by intro e; exact hq (ht.2 (by omega)))]
    simp only [List.append_nil]
    exact e1
theorem subsQ_some {t : Nat} {q : Bool} (ht : q = true ↔ t = 8) : ∀ (k : Nat) {ys : List UInt8} {l : List (List UInt8 × Int)}, subsQ q k ys = some l → ys = l.flatMap (subL t)
  | 0, ys, l, h => by
    unfold subsQ at h
    split at h
    · rename_i hy
      injection h with h
      subst h
      exact hy
    · cases h
  | k + 1, ys, l, h => by
    unfold subsQ at h
    split at h
    · rename_i hy
      injection h with h
      subst h
      exact hy
    · obtain ⟨s, hs, h⟩ := Option.bind_eq_some_iff.1 h
      obtain ⟨m, hm, h⟩ := Option.bind_eq_some_iff.1 h
      injection h with h
      subst h
      rw [List.flatMap_cons, ← subsQ_some ht k hm]
      exact subQ_some ht hs
theorem subsQ_of {t : Nat} {q : Bool} (ht : q = true ↔ t = 8) (h10 : t = 8 ∨ t = 10) : ∀ (l : List (List UInt8 × Int)) (k : Nat), l.all (subB t) = true → (l.flatMap (subL t)).length ≤ k → subsQ q k (l.flatMap (subL t)) = some l
  | [], k, _, _ => by cases k <;> rfl
  | s :: l, k, h, hk => by
    simp only [List.all_cons, Bool.and_eq_true] at h
    obtain ⟨h1, h2⟩ := h
    obtain ⟨f, c⟩ := s
    simp only [subB, Bool.and_eq_true, decide_eq_true_eq, Bool.not_eq_true', Bool.and_eq_false_iff, decide_eq_false_iff_not] at h1
    have hf := fullB_len h1.1.1
    rw [List.flatMap_cons] at hk ⊢
    have hl := textL_len f
    have hn : ¬ (subL t (f, c) ++ l.flatMap (subL t)) = [] := by
      unfold subL
      simp [textL, word]
    have hlen : 2 ≤ (subL t (f, c)).length := by unfold subL; simp [hl]; omega
    rw [List.length_append] at hk
    obtain ⟨j, rfl⟩ : ∃ j, k = j + 1 := ⟨k - 1, by omega⟩
    unfold subsQ
    rw [if_neg hn]
    have hs : subQ q (subL t (f, c) ++ l.flatMap (subL t)) = some ((f, c), l.flatMap (subL t)) := by
      unfold subQ
      rw [show subL t (f, c) = textL f ++ (if (t : Int) = 8 then [byteI c] else []) from rfl, List.append_assoc, qT_of f hf]
      simp only [Option.bind_some]
      by_cases h8 : t = 8
      · rw [if_pos (ht.2 h8), if_pos (by omega)]
        show (qB (UInt8.ofNat c.toNat :: _)).bind _ = _
        rw [qB_of _ (by omega)]
        simp only [Option.bind_some]
        rw [show ((c.toNat : Nat) : Int) = c by omega]
        rfl
      · rw [if_neg (fun e => h8 (ht.1 e)), if_neg (by omega)]
        have hc : c = 0 := by
          have := h1.2
          omega
        rw [hc]
        rfl
    rw [hs]
    simp only [Option.bind_some]
    rw [subsQ_of ht h10 l j h2 (by omega)]
    rfl

theorem atR_putQ (xs : List UInt8) (k : Nat) (h : (atR xs k).2.2 = 0) : ∃ j, 0 < j ∧ j ≤ 4 ∧ k + j ≤ xs.length ∧ (atR xs k).2.1 = k + j ∧ (xs.drop k).take j = dg (atR xs k).1 ∧ (atR xs k).1 ≤ 268435455 := by
  unfold atR at *
  simp only at h ⊢
  obtain ⟨n, j, h1, h2, h3, h4, h5, h6, _⟩ := dg_atV _ 0 0 h
  have hj : j ≤ 4 := by rw [List.length_take] at h4; omega
  have hl : j ≤ xs.length - k := by rw [List.length_take, List.length_drop] at h4; omega
  have hn : (atV ((xs.drop k).take 4) 0 0).1 = n := by rw [h1]; simp
  rw [if_pos h, hn, h2, Nat.zero_add]
  refine ⟨j, h3, hj, by omega, rfl, ?_, ?_⟩
  · rw [← h5, List.take_take, Nat.min_eq_left hj]
  · have : 128 ^ j ≤ 128 ^ 4 := Nat.pow_le_pow_right (by omega) hj
    have e : (128 : Nat) ^ 4 = 268435456 := by rfl
    omega

/-- What the fields' reader takes is what is laid down. -/
theorem fieldsQ_some {t low : Nat} {ys : List UInt8} {z : Pk × List UInt8} (h : fieldsQ t low ys = some z) (hm : mayP z.1 = true) (hz : z.2 = []) : ys = bodyP z.1 ∧ z.1.ty = (t : Int) := by
  unfold fieldsQ at h
  by_cases c1 : t = 1
  · subst c1
    rw [if_pos rfl] at h
    obtain ⟨e, e2⟩ := conQ_some h
    refine ⟨?_, e2⟩
    rw [e, hz, List.append_nil]
    unfold bodyP
    rw [if_pos e2]
  rw [if_neg c1] at h
  by_cases c2 : t = 2
  · subst c2
    rw [if_pos rfl] at h
    unfold welQ at h
    obtain ⟨a, ha, h⟩ := Option.bind_eq_some_iff.1 h
    split at h
    · rename_i h1
      obtain ⟨c, hc, h⟩ := Option.bind_eq_some_iff.1 h
      injection h with h
      subst h
      refine ⟨?_, rfl⟩
      simp only at hz
      rw [(qB_some ha).1, (qB_some hc).1, hz]
      show _ = [if decide (a.1 = 1) = true then 1 else 0, byteI ((c.1 : Nat) : Int)]
      unfold byteI
      rw [Int.toNat_natCast]
      have h2 : a.1 = 0 ∨ a.1 = 1 := by omega
      rcases h2 with h2 | h2 <;> rw [h2] <;> rfl
    · cases h
  rw [if_neg c2] at h
  by_cases c3 : t = 3
  · subst c3
    rw [if_pos rfl] at h
    unfold pubQ at h
    obtain ⟨a, ha, h⟩ := Option.bind_eq_some_iff.1 h
    obtain ⟨i, hi, h⟩ := Option.bind_eq_some_iff.1 h
    injection h with h
    subst h
    refine ⟨?_, rfl⟩
    show _ = textL a.1 ++ (if (0 : Int) < ((low / 2 % 4 : Nat) : Int) then wordI ((i.1 : Nat) : Int) else []) ++ i.2
    rw [(qT_some ha).1]
    by_cases hq : 0 < low / 2 % 4
    · rw [if_pos hq] at hi
      rw [if_pos (by omega), (qW_some hi).1]
      unfold wordI
      rw [Int.toNat_natCast, List.append_assoc]
    · rw [if_neg hq] at hi
      injection hi with hi
      rw [← hi, if_neg (by omega), List.append_nil]
  rw [if_neg c3] at h
  by_cases c4 : t = 4 ∨ t = 5 ∨ t = 6 ∨ t = 7 ∨ t = 11
  · rw [if_pos c4] at h
    unfold ackQ at h
    obtain ⟨i, hi, h⟩ := Option.bind_eq_some_iff.1 h
    injection h with h
    subst h
    refine ⟨?_, rfl⟩
    simp only at hz
    rw [(qW_some hi).1, hz, List.append_nil]
    unfold bodyP
    have hty : ({ zeroP (t : Int) with id := ((i.1 : Nat) : Int) } : Pk).ty = (t : Int) := rfl
    rw [hty, if_neg (by omega), if_neg (by omega), if_neg (by omega), if_pos (by omega)]
    unfold wordI
    rw [Int.toNat_natCast]
  rw [if_neg c4] at h
  have nam : ∀ (q : Bool), (q = true ↔ t = 8) → (t = 8 ∨ t = 10) → namQ t q ys = some z → ys = bodyP z.1 ∧ z.1.ty = (t : Int) := by
    intro q hq h8 h
    unfold namQ at h
    obtain ⟨i, hi, h⟩ := Option.bind_eq_some_iff.1 h
    obtain ⟨l, hl, h⟩ := Option.bind_eq_some_iff.1 h
    injection h with h
    subst h
    refine ⟨?_, rfl⟩
    rw [(qW_some hi).1, subsQ_some hq _ hl]
    unfold bodyP
    have hty : ({ zeroP (t : Int) with id := ((i.1 : Nat) : Int), subs := l } : Pk).ty = (t : Int) := rfl
    rw [hty, if_neg (by omega), if_neg (by omega), if_neg (by omega), if_neg (by omega), if_pos (by omega)]
    show word i.1 ++ _ = wordI ((i.1 : Nat) : Int) ++ l.flatMap (subL (t : Int)) ++ List.map byteI []
    unfold wordI
    rw [Int.toNat_natCast, List.map_nil, List.append_nil]
  by_cases c8 : t = 8
  · rw [if_pos c8] at h
    subst c8
    exact nam true (by simp) (.inl rfl) h
  rw [if_neg c8] at h
  by_cases c9 : t = 9
  · subst c9
    rw [if_pos rfl] at h
    unfold codQ at h
    obtain ⟨i, hi, h⟩ := Option.bind_eq_some_iff.1 h
    injection h with h
    subst h
    refine ⟨?_, rfl⟩
    rw [(qW_some hi).1]
    show _ = wordI ((i.1 : Nat) : Int) ++ List.flatMap (subL 9) [] ++ List.map byteI (i.2.map fun c => ((c.toNat : Nat) : Int))
    unfold wordI
    rw [Int.toNat_natCast, List.flatMap_nil, List.append_nil, List.map_map]
    congr 1
    have e : (byteI ∘ fun c : UInt8 => ((c.toNat : Nat) : Int)) = id := by
      funext c
      simp [byteI]
    rw [e, List.map_id]
  rw [if_neg c9] at h
  by_cases c10 : t = 10
  · rw [if_pos c10] at h
    subst c10
    exact nam false (by simp) (.inr rfl) h
  rw [if_neg c10] at h
  injection h with h
  subst h
  simp only at hz
  refine ⟨?_, rfl⟩
  have h1 := (mayP_parts hm).1
  simp only [zeroP] at h1
  rw [hz]
  unfold bodyP
  have hty : (zeroP (t : Int)).ty = (t : Int) := rfl
  rw [hty, if_neg (by omega), if_neg (by omega), if_neg (by omega), if_neg (by omega), if_neg (by omega)]
theorem readQ_lay {bs : List UInt8} {p : Pk} (h : readQ bs = some p) (hm : mayP p = true) : layP p = bs := by
  unfold readQ at h
  obtain ⟨a, ha, h⟩ := Option.bind_eq_some_iff.1 h
  split at h
  · cases h
  rename_i hat
  split at h
  · cases h
  rename_i hsz
  obtain ⟨z, hz, h⟩ := Option.bind_eq_some_iff.1 h
  unfold endQ at h
  split at h
  · rename_i he
    injection h with h
    subst h
    obtain ⟨hb, ht⟩ := fieldsQ_some hz hm he.1
    have hat' : (atR bs 1).2.2 = 0 := by omega
    obtain ⟨j, _, _, hj1, hj2, hj3, _⟩ := atR_putQ bs 1 hat'
    have hsz' : (atR bs 1).1 = (bs.drop (atR bs 1).2.1).length := by omega
    obtain ⟨ea, la⟩ := qB_some ha
    have ef : 16 * z.1.ty.toNat + flagsP z.1 = a.1 := by rw [ht, he.2, Int.toNat_natCast]; omega
    unfold layP
    rw [ef, ← hb, ← hsz', ← hj3, hj2]
    rw [ea]
    have : (UInt8.ofNat a.1 :: a.2).drop (1 + j) = a.2.drop j := by rw [Nat.add_comm]; rfl
    rw [this]
    show UInt8.ofNat a.1 :: (List.take j a.2 ++ List.drop j a.2) = _
    rw [List.take_append_drop]
  · cases h

end Go.Proofs.Ytkgidimaiedocaa

namespace Go.Proofs.Ytkgidimaiedocaa
set_option linter.unusedVariables false
set_option linter.unusedSimpArgs false
open Go.RowKit

theorem conQ_lay (p : Pk) (ht : p.ty = 1) (hu : p = usedP p) (h : conB p = true) : conQ (conBody p) = some (p, []) := by
  obtain ⟨ty, dup, id, topic, payload, qos, retain, client, clean, alive, hasWill, hasUser, hasPass, user, pass, present, codes, subs⟩ := p
  simp only at ht
  subst ht
  unfold usedP at hu
  rw [if_pos rfl] at hu
  simp only [Pk.mk.injEq, true_and] at hu
  obtain ⟨rfl, rfl, h1, h2, h3, h4, h5, h6, rfl, rfl, rfl⟩ := hu
  simp only [conB, Bool.and_eq_true, decide_eq_true_eq, Bool.not_eq_true'] at h
  obtain ⟨⟨⟨⟨⟨k1, k2⟩, k3⟩, k4⟩, k5⟩, k6⟩ := h
  have hq : 0 ≤ qos ∧ qos ≤ 2 := by
    cases hasWill with
    | false => simp at h3; omega
    | true => simp at k6; omega
  have htl : topic.length ≤ 65535 := by
    cases hasWill with
    | false => simp at h1; rw [h1]; simp
    | true => simp at k6; exact fullB_len k6.1.1.1
  have hpl : payload.length ≤ 65535 := by
    cases hasWill with
    | false => simp at h2; rw [h2]; simp
    | true => simp at k6; exact k6.1.1.2
  obtain ⟨q, rfl⟩ : ∃ q : Nat, qos = (q : Int) := ⟨qos.toNat, by omega⟩
  have hq2 : q < 3 := by omega
  have hB := conBits clean hasWill retain hasPass hasUser ⟨q, hq2⟩
  simp only at hB
  unfold conBody
  have hF : conFlags ⟨1, false, 0, topic, payload, (q : Int), retain, client, clean, alive, hasWill, hasUser, hasPass, user, pass, false, [], []⟩ = flagB clean 2 + flagB hasWill 4 + 8 * q + flagB retain 32 + flagB hasPass 64 + flagB hasUser 128 := by
    unfold conFlags
    simp only [Int.toNat_natCast]
  rw [hF]
  obtain ⟨f, hf⟩ : ∃ f, flagB clean 2 + flagB hasWill 4 + 8 * q + flagB retain 32 + flagB hasPass 64 + flagB hasUser 128 = f := ⟨_, rfl⟩
  rw [hf] at hB ⊢
  obtain ⟨b0, b1, b2, b3, b4, b5, b6⟩ := hB
  have hC : conFlags (conP f) = f := by
    unfold conFlags conP
    simp only [Int.toNat_natCast, b1, b2, b3, b4, b5, b6]
    exact hf
  unfold conQ
  have hm : ∀ rest, qT (mqtt ++ rest) = some ([77, 81, 84, 84], rest) := fun rest => qT_of [77, 81, 84, 84] (by simp) rest
  have e4 : ∀ rest, qB (4 :: rest) = some (4, rest) := fun _ => rfl
  have eA : ∀ rest, qW (wordI alive ++ rest) = some (alive.toNat, rest) := fun rest => qW_of _ (by omega) rest
  have e3 : ∀ rest : List UInt8, (if hasWill = true then textL topic ++ textL payload else []) ++ rest = (if hasWill = true then textL topic else []) ++ ((if hasWill = true then textL payload else []) ++ rest) := fun rest => by
    cases hasWill <;> simp
  simp only [List.append_assoc, List.cons_append, List.nil_append]
  rw [hm]
  simp only [Option.bind_some, if_true]
  rw [e4]
  simp only [Option.bind_some, if_true]
  rw [qB_of f b0]
  simp only [Option.bind_some, hC, if_true]
  rw [eA]
  simp only [Option.bind_some]
  rw [qT_of client (isStr_len k1)]
  simp only [Option.bind_some, b2, b5, b4]
  rw [e3, oT_of hasWill topic htl (fun hb => by rw [hb] at h1; simpa using h1)]
  simp only [Option.bind_some]
  rw [oT_of hasWill payload hpl (fun hb => by rw [hb] at h2; simpa using h2)]
  simp only [Option.bind_some]
  rw [oT_of hasUser user (isStr_len k4) (fun hb => by rw [hb] at h5; simpa using h5)]
  simp only [Option.bind_some]
  have e9 := oT_of hasPass pass k5 (fun hb => by rw [hb] at h6; simpa using h6) []
  rw [List.append_nil] at e9
  rw [e9]
  simp only [Option.bind_some, conP, b1, b2, b3, b4, b5, b6]
  rw [show ((alive.toNat : Nat) : Int) = alive by omega]

theorem fieldsQ_lay (p : Pk) (h1 : 1 ≤ p.ty ∧ p.ty ≤ 14) (hu : p = usedP p) (h : okP p = true) : fieldsQ p.ty.toNat (flagsP p) (bodyP p) = some (p, []) := by
  obtain ⟨ty, dup, id, topic, payload, qos, retain, client, clean, alive, hasWill, hasUser, hasPass, user, pass, present, codes, subs⟩ := p
  simp only at h1
  obtain ⟨t, rfl⟩ : ∃ t : Nat, ty = (t : Int) := ⟨ty.toNat, by omega⟩
  unfold okP at h
  unfold usedP at hu
  unfold fieldsQ bodyP flagsP
  simp only at h hu ⊢
  simp only [Int.toNat_natCast]
  by_cases c1 : t = 1
  · subst c1
    have tt : ((1 : Nat) : Int) = 1 := rfl
    rw [if_pos tt] at h
    rw [if_pos rfl, if_pos tt]
    exact conQ_lay _ rfl (by unfold usedP; exact hu) h
  have n1 : ¬ (t : Int) = 1 := by omega
  rw [if_neg n1] at h hu
  rw [if_neg c1, if_neg n1]
  by_cases c2 : t = 2
  · subst c2
    have tt : ((2 : Nat) : Int) = 2 := rfl
    rw [if_pos tt] at h hu
    rw [if_pos rfl, if_pos tt]
    simp only [zeroP, Pk.mk.injEq, true_and] at hu
    obtain ⟨rfl, rfl, rfl, rfl, rfl, rfl, rfl, rfl, rfl, rfl, rfl, rfl, rfl, rfl, _, _, rfl⟩ := hu
    match codes, h with
    | [c], h =>
      simp only [ackB, Bool.and_eq_true, decide_eq_true_eq, Bool.not_eq_true'] at h
      unfold welQ
      simp only [List.headD_cons]
      have e1 : qB [if present = true then (1 : UInt8) else 0, byteI c] = some (if present = true then 1 else 0, [byteI c]) := by cases present <;> rfl
      have e2 : qB [byteI c] = some (c.toNat, []) := qB_of _ (by omega) _
      rw [e1]
      simp only [Option.bind_some]
      rw [if_pos (by split <;> omega), e2]
      simp only [Option.bind_some]
      have hpr : decide ((if present = true then 1 else 0) = 1) = present := by cases present <;> decide
      rw [hpr, show ((c.toNat : Nat) : Int) = c by omega]
      rfl
  have n2 : ¬ (t : Int) = 2 := by omega
  rw [if_neg n2] at h hu
  rw [if_neg c2, if_neg n2]
  by_cases c3 : t = 3
  · subst c3
    have tt : ((3 : Nat) : Int) = 3 := rfl
    rw [if_pos tt] at h hu
    rw [if_pos rfl, if_pos tt, if_pos tt]
    simp only [zeroP, Pk.mk.injEq, true_and, and_true] at hu
    obtain ⟨rfl, rfl, rfl, rfl, rfl, rfl, rfl, rfl, rfl, rfl, rfl⟩ := hu
    simp only [pubB, Bool.and_eq_true, decide_eq_true_eq] at h
    obtain ⟨⟨⟨k1, k2⟩, k3⟩, k4⟩ := h
    obtain ⟨q, rfl⟩ : ∃ q : Nat, qos = (q : Int) := ⟨qos.toNat, by omega⟩
    have hB : ∀ (d r : Bool) (q : Fin 3), let f := flagB d 8 + 2 * q.val + flagB r 1
      digB f 8 = d ∧ digB f 1 = r ∧ f / 2 % 4 = q.val := by decide
    have hB := hB dup retain ⟨q, by omega⟩
    simp only at hB
    simp only [Int.toNat_natCast]
    obtain ⟨f, hf⟩ : ∃ f, flagB dup 8 + 2 * q + flagB retain 1 = f := ⟨_, rfl⟩
    simp only [hf] at hB ⊢
    obtain ⟨b1, b2, b3⟩ := hB
    unfold pubQ
    rw [List.append_assoc, qT_of topic (fullB_len k1)]
    simp only [Option.bind_some, b1, b2, b3]
    by_cases hq : 0 < q
    · have hq' : (0 : Int) < (q : Int) := by omega
      have hid : 1 ≤ id ∧ id ≤ 65535 := by
        have hq0 : ¬ (q : Int) = 0 := by omega
        simp [hq', hq0, idB] at k4
        rcases k4 with k4 | k4 <;> omega
      have eA : ∀ rest, qW (wordI id ++ rest) = some (id.toNat, rest) := fun rest => qW_of _ (by omega) rest
      rw [if_pos hq, if_pos hq', eA]
      simp only [Option.bind_some]
      rw [show ((id.toNat : Nat) : Int) = id by omega]
      rfl
    · have hq0 : q = 0 := by omega
      subst hq0
      rw [if_neg (by omega), if_neg (by omega)]
      have hid : id = 0 := by
        simp at k4
        exact k4.1
      simp only [Option.bind_some, List.nil_append]
      rw [hid]
      rfl
  have n3 : ¬ (t : Int) = 3 := by omega
  rw [if_neg n3] at h hu
  rw [if_neg c3, if_neg n3]
  have eI : ∀ n : Int, 1 ≤ n → n ≤ 65535 → ∀ rest, qW (wordI n ++ rest) = some (n.toNat, rest) := fun n _ _ rest => qW_of _ (by omega) rest
  by_cases c4 : t = 4 ∨ t = 5 ∨ t = 6 ∨ t = 7 ∨ t = 11
  · have c4' : (t : Int) = 4 ∨ (t : Int) = 5 ∨ (t : Int) = 6 ∨ (t : Int) = 7 ∨ (t : Int) = 11 := by omega
    rw [if_pos c4'] at h hu
    rw [if_pos c4, if_pos c4']
    simp only [zeroP, Pk.mk.injEq, true_and] at hu
    obtain ⟨rfl, rfl, rfl, rfl, rfl, rfl, rfl, rfl, rfl, rfl, rfl, rfl, rfl, rfl, rfl, rfl⟩ := hu
    simp only [idB, decide_eq_true_eq] at h
    have := eI id h.1 h.2 []
    rw [List.append_nil] at this
    unfold ackQ
    rw [this]
    simp only [Option.bind_some]
    rw [show ((id.toNat : Nat) : Int) = id by omega]
    rfl
  have n4 : ¬ ((t : Int) = 4 ∨ (t : Int) = 5 ∨ (t : Int) = 6 ∨ (t : Int) = 7 ∨ (t : Int) = 11) := by omega
  rw [if_neg n4] at h hu
  rw [if_neg c4, if_neg n4]
  have nam : ∀ q : Bool, (q = true ↔ t = 8) → (t = 8 ∨ t = 10) → ((t : Int) = 8 ∨ (t : Int) = 10) → namQ t q (if (t : Int) = 8 ∨ (t : Int) = 9 ∨ (t : Int) = 10 then wordI id ++ List.flatMap (subL (t : Int)) subs ++ List.map byteI codes else []) = some (⟨(t : Int), dup, id, topic, payload, qos, retain, client, clean, alive, hasWill, hasUser, hasPass, user, pass, present, codes, subs⟩, []) := by
    intro q hq h8 c5'
    rw [if_pos c5'] at h hu
    rw [if_pos (by omega)]
    simp only [zeroP, Pk.mk.injEq, true_and, and_true] at hu
    obtain ⟨rfl, rfl, rfl, rfl, rfl, rfl, rfl, rfl, rfl, rfl, rfl, rfl, rfl, rfl, rfl⟩ := hu
    simp only [idB, subsB, Bool.and_eq_true, decide_eq_true_eq] at h
    rw [List.map_nil, List.append_nil]
    unfold namQ
    rw [eI id h.1.1 h.1.2]
    simp only [Option.bind_some]
    rw [subsQ_of hq h8 subs _ h.2.1 (Nat.le_refl _)]
    simp only [Option.bind_some]
    rw [show ((id.toNat : Nat) : Int) = id by omega]
    rfl
  by_cases c8 : t = 8
  · rw [if_pos c8]
    have := nam true (by simp [c8]) (.inl c8) (by omega)
    rw [c8] at this ⊢
    exact this
  rw [if_neg c8]
  by_cases c9 : t = 9
  · subst c9
    have tt : ((9 : Nat) : Int) = 9 := rfl
    rw [if_neg (by omega), if_pos tt] at h hu
    rw [if_pos rfl, if_pos (by omega)]
    simp only [zeroP, Pk.mk.injEq, true_and, and_true] at hu
    obtain ⟨rfl, rfl, rfl, rfl, rfl, rfl, rfl, rfl, rfl, rfl, rfl, rfl, rfl, rfl, rfl⟩ := hu
    simp only [idB, codesB, Bool.and_eq_true, decide_eq_true_eq] at h
    unfold codQ
    rw [List.flatMap_nil, List.append_nil, eI id h.1.1 h.1.2]
    simp only [Option.bind_some, map_byteI codes h.2.1]
    rw [show ((id.toNat : Nat) : Int) = id by omega]
    rfl
  rw [if_neg c9]
  by_cases c10 : t = 10
  · rw [if_pos c10]
    have := nam false (by simp [c10]) (.inr c10) (by omega)
    rw [c10] at this ⊢
    exact this
  rw [if_neg c10]
  rw [if_neg (by omega), if_neg (by omega)] at hu
  rw [if_neg (by omega), hu]

theorem readQ_of {p : Pk} (h : mayP p = true) : readQ (layP p) = some p := by
  obtain ⟨h1, h2, h3, h4⟩ := mayP_parts h
  obtain ⟨f1, f2⟩ := lay_first h
  have ha := lay_at p h4 []
  rw [List.append_nil] at ha
  have hd : (layP p).drop (1 + (dg (bodyP p).length).length) = bodyP p := by
    unfold layP
    rw [Nat.add_comm, List.drop_succ_cons, List.drop_left]
  unfold readQ
  have hq : qB (layP p) = some (16 * p.ty.toNat + flagsP p, dg (bodyP p).length ++ bodyP p) := qB_of _ (by omega) _
  rw [hq]
  simp only [Option.bind_some]
  rw [ha, if_neg (by simp)]
  simp only
  rw [hd, if_neg (by simp), show (16 * p.ty.toNat + flagsP p) / 16 = p.ty.toNat by omega, show (16 * p.ty.toNat + flagsP p) % 16 = flagsP p by omega, fieldsQ_lay p h1 h2 h3]
  simp [endQ]
/-- To read and give up is to read. -/
theorem parseQ_eq (bs : List UInt8) : parseQ bs = readP bs := by
  unfold parseQ
  cases hq : readQ bs with
  | none =>
    simp only
    cases hp : readP bs with
    | none => rfl
    | some p =>
      obtain ⟨h1, h2⟩ := readP_some hp
      rw [← h2, readQ_of h1] at hq
      cases hq
  | some p =>
    simp only
    by_cases hm : mayP p = true
    · rw [if_pos hm, ← readQ_lay hq hm, readP_lay hm]
    · rw [if_neg hm]
      cases hp : readP bs with
      | none => rfl
      | some p2 =>
        obtain ⟨h1, h2⟩ := readP_some hp
        rw [← h2, readQ_of h1] at hq
        injection hq with hq
        rw [hq] at h1
        exact absurd h1 hm

end Go.Proofs.Ytkgidimaiedocaa

namespace Go.Proofs.Ytkgidimaiedocaa
set_option linter.unusedVariables false
set_option linter.unusedSimpArgs false
open Go.RowKit

theorem qB_len {ys : List UInt8} {z : Nat × List UInt8} (h : qB ys = some z) : z.2.length + 1 = ys.length := by
  have := congrArg List.length (qB_some h).1
  simp at this
  omega
theorem qW_len {ys : List UInt8} {z : Nat × List UInt8} (h : qW ys = some z) : z.2.length + 2 = ys.length := by
  have := congrArg List.length (qW_some h).1
  simp [word] at this
  omega
theorem subsQ_short {q : Bool} : ∀ (k : Nat) {ys : List UInt8} {l : List (List UInt8 × Int)}, subsQ q k ys = some l → l.length ≤ ys.length ∧ ∀ s ∈ l, s.1.length ≤ 65535
  | 0, ys, l, h => by
    unfold subsQ at h
    split at h
    · injection h with h
      subst h
      simp
    · cases h
  | k + 1, ys, l, h => by
    unfold subsQ at h
    split at h
    · injection h with h
      subst h
      simp
    · obtain ⟨s, hs, h⟩ := Option.bind_eq_some_iff.1 h
      obtain ⟨m, hm, h⟩ := Option.bind_eq_some_iff.1 h
      injection h with h
      subst h
      obtain ⟨h1, h2⟩ := subsQ_short k hm
      unfold subQ at hs
      obtain ⟨f, hf, hs⟩ := Option.bind_eq_some_iff.1 hs
      have hfl := (qT_some hf).2
      have hft : f.2.length + 2 ≤ ys.length := by
        have := congrArg List.length (qT_some hf).1
        rw [List.length_append, textL_len] at this
        omega
      have key : s.1.1 = f.1 ∧ s.2.length ≤ f.2.length := by
        split at hs
        · obtain ⟨c, hc, hs⟩ := Option.bind_eq_some_iff.1 hs
          injection hs with hs
          subst hs
          have := qB_len hc
          exact ⟨rfl, by simp only; omega⟩
        · injection hs with hs
          subst hs
          exact ⟨rfl, Nat.le_refl _⟩
      refine ⟨by rw [List.length_cons]; omega, ?_⟩
      intro t ht
      rcases List.mem_cons.1 ht with rfl | ht
      · rw [key.1]; exact hfl
      · exact h2 t ht
theorem fieldsQ_short {t low : Nat} {ys : List UInt8} {z : Pk × List UInt8} (hl : ys.length ≤ 65535) (h : fieldsQ t low ys = some z) : PkS z.1 := by
  unfold fieldsQ at h
  split at h
  · unfold conQ at h
    obtain ⟨a, ha, h⟩ := Option.bind_eq_some_iff.1 h
    split at h
    · obtain ⟨l, hl, h⟩ := Option.bind_eq_some_iff.1 h
      split at h
      · obtain ⟨f, hf, h⟩ := Option.bind_eq_some_iff.1 h
        split at h
        · obtain ⟨al, hal, h⟩ := Option.bind_eq_some_iff.1 h
          obtain ⟨cl, hcl, h⟩ := Option.bind_eq_some_iff.1 h
          obtain ⟨tp, htp, h⟩ := Option.bind_eq_some_iff.1 h
          obtain ⟨pl, hpl, h⟩ := Option.bind_eq_some_iff.1 h
          obtain ⟨us, hus, h⟩ := Option.bind_eq_some_iff.1 h
          obtain ⟨ps, hps, h⟩ := Option.bind_eq_some_iff.1 h
          injection h with h
          subst h
          exact ⟨(oT_some htp).2.1, (oT_some hpl).2.1, (qT_some hcl).2, (oT_some hus).2.1, (oT_some hps).2.1, by simp [conP], by simp [conP], by simp [conP]⟩
        · cases h
      · cases h
    · cases h
  split at h
  · unfold welQ at h
    obtain ⟨a, ha, h⟩ := Option.bind_eq_some_iff.1 h
    split at h
    · obtain ⟨c, hc, h⟩ := Option.bind_eq_some_iff.1 h
      injection h with h
      subst h
      simp [PkS, zeroP]
    · cases h
  split at h
  · unfold pubQ at h
    obtain ⟨a, ha, h⟩ := Option.bind_eq_some_iff.1 h
    obtain ⟨i, hi, h⟩ := Option.bind_eq_some_iff.1 h
    injection h with h
    subst h
    have h1 := (qT_some ha).2
    have h2 := congrArg List.length (qT_some ha).1
    rw [List.length_append, textL_len] at h2
    have h3 : i.2.length ≤ a.2.length := by
      split at hi
      · have := qW_len hi
        omega
      · injection hi with hi
        rw [← hi]
        exact Nat.le_refl _
    refine ⟨h1, ?_, by simp [zeroP], by simp [zeroP], by simp [zeroP], by simp [zeroP], by simp [zeroP], by simp [zeroP]⟩
    show i.2.length ≤ 65535
    omega
  split at h
  · unfold ackQ at h
    obtain ⟨i, hi, h⟩ := Option.bind_eq_some_iff.1 h
    injection h with h
    subst h
    simp [PkS, zeroP]
  have nam : ∀ (t : Nat) (q : Bool), namQ t q ys = some z → PkS z.1 := by
    intro t q h
    unfold namQ at h
    obtain ⟨i, hi, h⟩ := Option.bind_eq_some_iff.1 h
    obtain ⟨l, hl2, h⟩ := Option.bind_eq_some_iff.1 h
    injection h with h
    subst h
    obtain ⟨h1, h2⟩ := subsQ_short _ hl2
    have := qW_len hi
    refine ⟨by simp [zeroP], by simp [zeroP], by simp [zeroP], by simp [zeroP], by simp [zeroP], by simp [zeroP], ?_, h2⟩
    show l.length ≤ 65535
    omega
  split at h
  · exact nam 8 true h
  split at h
  · unfold codQ at h
    obtain ⟨i, hi, h⟩ := Option.bind_eq_some_iff.1 h
    injection h with h
    subst h
    have := qW_len hi
    refine ⟨by simp [zeroP], by simp [zeroP], by simp [zeroP], by simp [zeroP], by simp [zeroP], ?_, by simp [zeroP], by simp [zeroP]⟩
    show (i.2.map _).length ≤ 65535
    rw [List.length_map]
    omega
  split at h
  · exact nam 10 false h
  · injection h with h
    subst h
    simp [PkS, zeroP]
theorem readQ_short {bs : List UInt8} {p : Pk} (hl : bs.length ≤ 65535) (h : readQ bs = some p) : PkS p := by
  unfold readQ at h
  obtain ⟨a, ha, h⟩ := Option.bind_eq_some_iff.1 h
  split at h
  · cases h
  split at h
  · cases h
  obtain ⟨z, hz, h⟩ := Option.bind_eq_some_iff.1 h
  unfold endQ at h
  split at h
  · injection h with h
    subst h
    exact fieldsQ_short (by rw [List.length_drop]; omega) hz
  · cases h

end Go.Proofs.Ytkgidimaiedocaa
