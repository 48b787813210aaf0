/-
  What is proved here: small facts on memory that the contracts of this seat share (a slice that reads as a list; a block known whole; bytes and texts). No condition of its own; nothing of the program is named.
-/
import Derived.WalkKit
import Derived.WalkSpells
import Derived.WalkLawsBesides
import Derived.Below
import Derived.Deep.Draws
import Derived.Deep.WholeRow
import Derived.Deep.OwnRows
import Derived.Deep.RegionHeld3
import Derived.Deep.QuietTactic
import Derived.BigQuiet
namespace Go.Proofs.YtfjafpbmgbnllaaGreat
set_option linter.unusedVariables false
set_option linter.unusedSimpArgs false
open Go.RowKit

/-- The slice from A on, n long, holds the values vs. -/
def Rd (w : World) (A : Option Addr) (n : Nat) (vs : List Value) : Prop :=
  vs.length = n ∧ (0 < n → ∃ b o, A = some ⟨b, o, none⟩ ∧ b < w.heap.size ∧ ∀ i v, vs[i]? = some v → w.cell? ⟨b, o + i, none⟩ = some v)

/-- Bytes as cells. -/
def bv (xs : List UInt8) : List Value := xs.map fun x => .int .u8 x.toNat
/-- Ints as cells. -/
def iv (xs : List Int) : List Value := xs.map fun x => .int .i64 x

theorem bv_length (xs : List UInt8) : (bv xs).length = xs.length := by simp [bv]
theorem iv_length (xs : List Int) : (iv xs).length = xs.length := by simp [iv]
theorem bv_append (xs ys : List UInt8) : bv (xs ++ ys) = bv xs ++ bv ys := by simp [bv]
theorem iv_append (xs ys : List Int) : iv (xs ++ ys) = iv xs ++ iv ys := by simp [iv]
theorem bv_get (xs : List UInt8) (i : Nat) (h : i < xs.length) : (bv xs)[i]? = some (.int .u8 xs[i].toNat) := by simp [bv, h]
theorem iv_get (xs : List Int) (i : Nat) (h : i < xs.length) : (iv xs)[i]? = some (.int .i64 xs[i]) := by simp [iv, h]
theorem bv_cut (xs : List UInt8) (i n : Nat) : ((bv xs).drop i).take n = bv ((xs.drop i).take n) := by simp [bv, List.map_take, List.map_drop]
theorem iv_cut (xs : List Int) (i n : Nat) : ((iv xs).drop i).take n = iv ((xs.drop i).take n) := by simp [iv, List.map_take, List.map_drop]
theorem bv_one (xs : List UInt8) : ∀ u ∈ bv xs, u.oneCell' = true := by
  intro u hu
  simp only [bv, List.mem_map] at hu
  obtain ⟨x, _, rfl⟩ := hu
  rfl
theorem iv_one (xs : List Int) : ∀ u ∈ iv xs, u.oneCell' = true := by
  intro u hu
  simp only [iv, List.mem_map] at hu
  obtain ⟨x, _, rfl⟩ := hu
  rfl

section
variable {w w' : World} {A : Option Addr} {n : Nat} {vs : List Value}
theorem Rd.nil (w : World) (A : Option Addr) : Rd w A 0 [] := ⟨rfl, fun h => absurd h (Nat.lt_irrefl 0)⟩
theorem Rd.keep (h : Rd w A n vs) (hb : Below w.heap.size w w') : Rd w' A n vs :=
  ⟨h.1, fun hn => by
    obtain ⟨b, o, e, hl, hc⟩ := h.2 hn
    exact ⟨b, o, e, Nat.lt_of_lt_of_le hl hb.size, fun i v hv => (hb.cell (p := ⟨b, o + i, none⟩) hl).trans (hc i v hv)⟩⟩
theorem Rd.drew (h : Rd w A n vs) : Rd w.drew A n vs := h
theorem Rd.drewN (h : Rd w A n vs) (k : Nat) : Rd (w.drewN k) A n vs := h
theorem Rd.at_ (h : Rd w A n vs) {k : Nat} (hk : k < n) : ∃ b o, A = some ⟨b, o, none⟩ ∧ b < w.heap.size ∧ ∀ i v, vs[i]? = some v → w.cell? ⟨b, o + i, none⟩ = some v := h.2 (by omega)
theorem Rd.none_ (h : Rd w none n vs) : n = 0 ∧ vs = [] := by
  have h0 : n = 0 := by
    rcases Nat.eq_zero_or_pos n with h0 | h0
    · exact h0
    · obtain ⟨b, o, e, _⟩ := h.2 h0
      cases e
  exact ⟨h0, List.eq_nil_of_length_eq_zero (h.1.trans h0)⟩
end

theorem add_at (b o j : Nat) : (⟨b, o, none⟩ : Addr).add j = ⟨b, o + j, none⟩ := by
  unfold Addr.add
  by_cases h : j = 0 <;> simp [h]

/-- A row of cells, under a name of its own (so that the walk leaves it alone). -/
def arr (l : List Value) : Array Value := l.toArray
theorem arr_size (l : List Value) : (arr l).size = l.length := by simp [arr]
theorem arr_get (l : List Value) (i : Nat) : (arr l)[i]? = l[i]? := by simp [arr]
theorem arr_toList (l : List Value) : (arr l).toList = l := by simp [arr]
theorem arr_set (l : List Value) (i : Nat) (u : Value) : (arr l).setIfInBounds i u = arr (l.set i u) := by simp [arr]

theorem arr_put2 (vs : List Value) (l : Nat) (h : vs.length = l) (x y a b : Value) (rest : List Value) : ((arr (vs ++ x :: y :: rest)).setIfInBounds l a).setIfInBounds (l + 1) b = arr (vs ++ a :: b :: rest) := by
  subst h
  rw [arr_set, arr_set]
  congr 1
  simp

/-- A block known whole. -/
def Blk (w : World) (g : Nat) (t : TypeId) (cs : List Value) : Prop := w.heap[g]? = some (.cells (arr cs) t (0, 0))

section
variable {w w' : World} {g : Nat} {t : TypeId} {cs : List Value}
theorem Blk.lt (h : Blk w g t cs) : g < w.heap.size := by
  rcases Nat.lt_or_ge g w.heap.size with hlt | hge
  · exact hlt
  · unfold Blk at h
    rw [Array.getElem?_eq_none hge] at h
    cases h
theorem Blk.cell (h : Blk w g t cs) (i : Nat) : w.cell? ⟨g, i, none⟩ = cs[i]? := by
  unfold Blk at h
  simp [World.cell?, h, arr_get]
theorem Blk.frozen (h : Blk w g t cs) (i : Nat) : w.frozen? ⟨g, i, none⟩ = false := by
  unfold Blk at h
  simp [World.frozen?, h]
theorem Blk.new (w : World) (t : TypeId) (cs : List Value) : Blk (w.alloc (.cells (arr cs) t)) w.heap.size t cs := by
  unfold Blk
  show (w.heap.push _)[w.heap.size]? = _
  simp
theorem Blk.set (h : Blk w g t cs) (i : Nat) (u : Value) : Blk (w.setCell ⟨g, i, none⟩ u) g t (cs.set i u) := by
  unfold Blk at h ⊢
  simp [World.setCell, Array.getElem?_modify, h, arr_set]
theorem Blk.keep (h : Blk w g t cs) (hb : Below w.heap.size w w') : Blk w' g t cs := (hb.block g h.lt).trans h
theorem Blk.rd (h : Blk w g t cs) : Rd w (some ⟨g, 0, none⟩) cs.length cs :=
  ⟨rfl, fun _ => ⟨g, 0, rfl, h.lt, fun i v hv => by rw [Nat.zero_add, h.cell]; exact hv⟩⟩
end

/-- The text of bytes. -/
def str (xs : List UInt8) : ByteArray := ⟨xs.toArray⟩
theorem str_inj {xs ys : List UInt8} : str xs = str ys ↔ xs = ys := by
  constructor
  · intro h
    have h1 : xs.toArray = ys.toArray := by injection h
    simpa using h1
  · rintro rfl; rfl
theorem strOfNums_bv (xs : List UInt8) : strOfNums (xs.map fun x => ((x.toNat : Nat) : Int)) = str xs := by
  unfold strOfNums str
  rw [List.map_map]
  congr 2
  exact (List.map_congr_left fun x _ => by simp).trans (List.map_id xs)

/-- string(b): in any world in which b reads. -/
theorem Rd.toStr {P : Program} {w : World} {A : Option Addr} {n : Nat} {xs : List UInt8} (h : Rd w A n (bv xs)) (src e dst : TypeId) (hs : P.underlying src = some (.slice e)) (he : P.underlying e = some (.int .u8))
    (hd : P.underlying dst = some .string) (c : Nat) : (convert src dst (.slice A n c)).run P w = .ok (.string (str xs)) w := by
  have hl : xs.length = n := by rw [← bv_length]; exact h.1
  rcases A with _ | ⟨b, o, sp⟩
  · obtain ⟨h0, h1⟩ := h.none_
    have : xs = [] := List.eq_nil_of_length_eq_zero (by omega)
    subst this
    rw [run_convert_bytes_nil w src e hs he n c dst hd]
    rfl
  · rcases Nat.eq_zero_or_pos n with h0 | h0
    · subst h0
      have : xs = [] := List.eq_nil_of_length_eq_zero hl
      subst this
      rw [run_convert_bytes_string w src dst e _ _ _ hs he hd, run_bytesToString w _ 0 c [] (by simp [loadCells, loadCellsFrom])]
      rfl
    · obtain ⟨b', o', e', _, hc⟩ := h.2 h0
      injection e' with e'
      injection e' with e1 e2 e3
      subst e1 e2 e3
      rw [run_convert_bytes_arg w src e hs he b o n c (xs.map fun x => ((x.toNat : Nat) : Int)) (by simpa using hl) (fun i hi => by
        rw [hc i _ (bv_get xs i (by omega))]
        simp [List.getD_eq_getElem?_getD, List.getElem?_map, List.getElem?_eq_getElem (show i < xs.length by omega)]) dst hd, strOfNums_bv]

/-! ### Bits of ints that are not below 0 -/
theorem ofInt_i64 (a : Nat) (ha : a < 4611686018427387904) : (BitVec.ofInt 64 (a : Int)).toNat = a := by
  rw [BitVec.ofInt_natCast, BitVec.toNat_ofNat]; exact Nat.mod_eq_of_lt (by omega)
theorem i64_or_nat (a b : Nat) (ha : a < 4611686018427387904) (hb : b < 4611686018427387904) : bits .or .i64 (a : Int) (b : Int) = ((a ||| b : Nat) : Int) := by
  have hx : a ||| b < 2 ^ 62 := Nat.or_lt_two_pow (by omega) (by omega)
  show IntKind.i64.wrap ((BitVec.ofInt 64 (a : Int) ||| BitVec.ofInt 64 (b : Int)).toNat : Int) = _
  rw [BitVec.toNat_or, ofInt_i64 a ha, ofInt_i64 b hb, IntKind.wrap_i64]
  omega
theorem i64_and_nat (a b : Nat) (ha : a < 4611686018427387904) (hb : b < 4611686018427387904) : bits .and .i64 (a : Int) (b : Int) = ((a &&& b : Nat) : Int) := by
  have hx : a &&& b < 2 ^ 62 := Nat.and_lt_two_pow _ (by omega)
  show IntKind.i64.wrap ((BitVec.ofInt 64 (a : Int) &&& BitVec.ofInt 64 (b : Int)).toNat : Int) = _
  rw [BitVec.toNat_and, ofInt_i64 a ha, ofInt_i64 b hb, IntKind.wrap_i64]
  omega
theorem i64_xor_nat (a b : Nat) (ha : a < 4611686018427387904) (hb : b < 4611686018427387904) : bits .xor .i64 (a : Int) (b : Int) = ((a ^^^ b : Nat) : Int) := by
  have hx : a ^^^ b < 2 ^ 62 := Nat.xor_lt_two_pow (by omega) (by omega)
  show IntKind.i64.wrap ((BitVec.ofInt 64 (a : Int) ^^^ BitVec.ofInt 64 (b : Int)).toNat : Int) = _
  rw [BitVec.toNat_xor, ofInt_i64 a ha, ofInt_i64 b hb, IntKind.wrap_i64]
  omega
/-- Two bytes as one word. -/
theorem or_word (x y : Nat) (hx : x < 256) (hy : y < 256) : bits .or .i64 ((x : Int) * 256) (y : Int) = 256 * (x : Int) + (y : Int) := by
  have h : (x : Int) * 256 = ((x * 256 : Nat) : Int) := by omega
  rw [h, i64_or_nat _ _ (by omega) (by omega)]
  have : x * 256 ||| y = x * 256 + y := by
    have := Nat.two_pow_add_eq_or_of_lt (i := 8) (b := y) (by omega) x
    rw [show (2 : Nat) ^ 8 = 256 from rfl, Nat.mul_comm 256 x] at this
    omega
  omega

/-- Where x[lo:] begins, x of capacity c, an element of one cell. -/
def cutA (A : Option Addr) (lo c : Nat) : Option Addr := if c = lo then A else A.map fun a => a.add lo
theorem cutA_zero (A : Option Addr) (c : Nat) : cutA A 0 c = A := by
  unfold cutA
  split
  · rfl
  · cases A <;> simp [Addr.add]

theorem Rd.cut {w : World} {A : Option Addr} {l : Nat} {vs : List Value} (h : Rd w A l vs) (lo n c : Nat) (hn : lo + n ≤ l) (hc : l ≤ c) : Rd w (cutA A lo c) n ((vs.drop lo).take n) := by
  have hl := h.1
  refine ⟨by simp; omega, fun h0 => ?_⟩
  obtain ⟨b, o, rfl, hb, hcell⟩ := h.2 (by omega)
  unfold cutA
  rw [if_neg (by omega)]
  refine ⟨b, o + lo, by simp [add_at], hb, fun i v hv => ?_⟩
  have hi : i < n := by have := (List.getElem?_eq_some_iff.1 hv).1; simp at this; omega
  rw [List.getElem?_take_of_lt hi, List.getElem?_drop] at hv
  rw [Nat.add_assoc]
  exact hcell _ _ hv

theorem run_sl {P : Program} (t e : TypeId) (ht : P.underlying t = some (.slice e)) (hs : (P.info? e).map (·.size) = some 1) (A : Option Addr) (l c : Nat) (lo hi : Int) (lo' hi' : Nat) (elo : lo = lo') (ehi : hi = hi')
    (h1 : lo' ≤ hi') (h2 : hi' ≤ c) (w : World) : (Instr.slice t (.slice A l c) (some (.int .i64 lo)) (some (.int .i64 hi)) none).run P w = .ok (.slice (cutA A lo' c) (hi' - lo') (c - lo')) w := by
  subst elo ehi
  obtain ⟨i, hi, hsz⟩ := Option.map_eq_some_iff.1 hs
  have a1 : (lo' : Int) ≤ (hi' : Int) := by omega
  have a2 : (hi' : Int) ≤ (c : Int) := by omega
  simp [Instr.slice, run_underlying ht, Instr.sliceBounds, run_sliceBound, sizeOf, typeInfo, hi, hsz, cutA, a1, a2]

theorem hide {p : Prop} (h : p) : Hid p := h

/-- What the slice holds, by the address of its first cell. -/
theorem Rd.adds {w : World} {ad : Addr} {n : Nat} {vs : List Value} (h : Rd w (some ad) n vs) : ∀ j u, vs[j]? = some u → w.cell? (ad.add j) = some u := by
  intro j u hu
  have hj : j < n := by
    have := (List.getElem?_eq_some_iff.1 hu).1
    have := h.1
    omega
  obtain ⟨b, o, e, _, hc⟩ := h.at_ hj
  injection e with e
  subst e
  rw [add_at]
  exact hc j u hu

theorem madeCells_one (z : Value) (n : Nat) : madeCells #[z] n = arr (List.replicate n z) := by
  apply Array.ext
  · simp [madeCells, arr]
  · intro i h1 h2
    simp [madeCells, arr, Nat.mod_one]

/-- make([]T, n), T of one cell. -/
theorem run_mk {P : Program} (t e : TypeId) (z : Value) (bytes : Nat) (ht : P.underlying t = some (.slice e)) (hinfo : (P.info? e).map (fun i => (i.zero, i.size, i.bytes)) = some (some z, 1, bytes)) (hz1 : z.cells = #[z])
    (n : Nat) (hbytes : bytes * n ≤ 281474976710656) (h63 : n ≤ 9223372036854775807) (w : World) :
    (Instr.makeSlice t (.int .i64 (n : Int)) (.int .i64 (n : Int))).run P w = .ok (.slice (some ⟨w.heap.size, 0, none⟩) n n) (w.alloc (.cells (arr (List.replicate n z)) e)) := by
  obtain ⟨i, hi, hzz⟩ := Option.map_eq_some_iff.1 hinfo
  simp only [Prod.mk.injEq] at hzz
  obtain ⟨hz, hs, hb⟩ := hzz
  have hb' : ((bytes * n : Nat) : Int) ≤ 281474976710656 := by omega
  rw [Int.natCast_mul] at hb'
  have hr := run_make (P := P) w t e i z ht hi hz .i64 .i64 n n (by omega) (Int.le_refl _) (by rw [hb]; exact hb') (by omega)
  rw [hs, hz1, Nat.mul_one, madeCells_one, Int.toNat_natCast] at hr
  exact hr

/-- copy(out, b), out a new row that is as long or longer. -/
theorem run_cp {P : Program} (dT sT ty e : TypeId) (hu : P.underlying dT = some (.slice e)) (hs : (P.info? e).map (·.size) = some 1) (w : World) (A : Option Addr) (n c : Nat) (vs : List Value) (h : Rd w A n vs)
    (h1 : ∀ v ∈ vs, v.oneCell' = true) (cur : List Value) (hn : n ≤ cur.length) (dl dc : Nat) (hdl : n ≤ dl) :
    (Builtin.copy_ #[dT, sT] ty #[.slice (some ⟨w.heap.size, 0, none⟩) dl dc, .slice A n c]).run P (w.alloc (.cells (arr cur) e)) = .ok (.int .i64 (n : Int)) (w.alloc (.cells (arr (vs ++ cur.drop n)) e)) := by
  have hw : (w.alloc (.cells (arr cur) e)).heap[w.heap.size]? = some (.cells (arr cur) e (0, 0)) := Blk.new w e cur
  rcases A with _ | ad
  · obtain ⟨rfl, rfl⟩ := h.none_
    obtain ⟨i, hi, hsz⟩ := Option.map_eq_some_iff.1 hs
    simp [Builtin.copy_, run_underlying hu, sizeOf, typeInfo, hi, Builtin.lenOf, Builtin.firstCells, storeCells, goInt]
  · have hb : Below w.heap.size w (w.alloc (.cells (arr cur) e)) := (Below.refl _ _).alloc (Nat.le_refl _) _
    have hr := run_copy_row (P := P) (w.alloc (.cells (arr cur) e)) dT sT ty e w.heap.size 0 dl dc ad n c (arr cur) e vs hu hs hw (by rw [h.1]; exact (Nat.min_eq_left hdl).symm)
      (h.keep hb).adds (by rw [h.1, arr_size]; omega) h1
    rw [hr, World.setRow_alloc_new, h.1, arr_toList]
    simp [goInt, arr]

/-- copy(out, b), out a new row that is as long or shorter. -/
theorem run_cpS {P : Program} (dT sT ty e : TypeId) (hu : P.underlying dT = some (.slice e)) (hs : (P.info? e).map (·.size) = some 1) (w : World) (A : Option Addr) (n c : Nat) (vs : List Value) (h : Rd w A n vs)
    (h1 : ∀ v ∈ vs, v.oneCell' = true) (cur : List Value) (dl dc : Nat) (hcur : cur.length = dl) (hdl : dl ≤ n) :
    (Builtin.copy_ #[dT, sT] ty #[.slice (some ⟨w.heap.size, 0, none⟩) dl dc, .slice A n c]).run P (w.alloc (.cells (arr cur) e)) = .ok (.int .i64 (dl : Int)) (w.alloc (.cells (arr (vs.take dl)) e)) := by
  have hw : (w.alloc (.cells (arr cur) e)).heap[w.heap.size]? = some (.cells (arr cur) e (0, 0)) := Blk.new w e cur
  rcases A with _ | ad
  · obtain ⟨rfl, rfl⟩ := h.none_
    obtain rfl : dl = 0 := by omega
    obtain rfl : cur = [] := List.eq_nil_of_length_eq_zero hcur
    obtain ⟨i, hi, hsz⟩ := Option.map_eq_some_iff.1 hs
    simp [Builtin.copy_, run_underlying hu, sizeOf, typeInfo, hi, Builtin.lenOf, Builtin.firstCells, storeCells, goInt]
  · have hb : Below w.heap.size w (w.alloc (.cells (arr cur) e)) := (Below.refl _ _).alloc (Nat.le_refl _) _
    have ht : (vs.take dl).length = dl := by rw [List.length_take, h.1]; omega
    have hr := run_copy_row (P := P) (w.alloc (.cells (arr cur) e)) dT sT ty e w.heap.size 0 dl dc ad n c (arr cur) e (vs.take dl) hu hs hw (by rw [ht]; exact (Nat.min_eq_right hdl).symm)
      (fun j u hu => (h.keep hb).adds j u (by
        have hj : j < dl := by have := (List.getElem?_eq_some_iff.1 hu).1; omega
        rwa [List.getElem?_take_of_lt hj] at hu)) (by rw [ht, arr_size]; omega) (fun v hv => h1 v (List.mem_of_mem_take hv))
    rw [hr, World.setRow_alloc_new, ht, arr_toList, List.drop_eq_nil_of_le (by omega)]
    simp [goInt, arr]

/-- An owned row, as a slice that reads. -/
theorem own_rd {w : World} {base : Nat} {e : TypeId} {A : Option Addr} {n c : Nat} {xs : List Value} (h : w.ownsRow base e 1 (.slice A n c) n xs) : Rd w A n xs := by
  refine ⟨by simpa using h.1, fun hn => ?_⟩
  rcases h.2 with ⟨_, h0⟩ | ⟨g, cap, cur, hv, hg, hh, hc, hm, hs, ht⟩
  · omega
  · injection hv with hA _ _
    subst hA
    refine ⟨g, 0, rfl, Blk.lt (t := e) (cs := cur.toList) (by simpa [Blk, arr] using hh), fun i v hv => ?_⟩
    have := h.cells (g := g) rfl i v hv
    rwa [add_at] at this

/-- append onto a row of the call's own, from whatever slice reads. -/
theorem run_app {P : Program} {w : World} (t ty e : TypeId) (z : Value) (bytes : Nat) (ht : P.underlying t = some (.slice e)) (hinfo : (P.info? e).map (fun i => (i.zero, i.size, i.bytes)) = some (some z, 1, bytes)) (hz1 : z.cells = #[z])
    (base : Nat) (A : Option Addr) (n c : Nat) (xs : List Value) (hown : w.ownsRow base e 1 (.slice A n c) n xs) (B : Option Addr) (m d : Nat) (ys : List Value) (hr : Rd w B m ys) (h1 : ∀ u ∈ ys, u.oneCell' = true)
    (h63 : n + m ≤ maxLen) (hbytes : (n + m) * bytes ≤ 140737488355328) (hbase : base ≤ w.heap.size) :
    ∃ A' c' w', (Builtin.append_ #[t, t] ty #[.slice A n c, .slice B m d]).run P w = .ok (.slice A' (n + m) c') w' ∧ w'.ownsRow base e 1 (.slice A' (n + m) c') (n + m) (xs ++ ys) ∧ w.grownBy w' (Value.slice A n c).ownBlock ∧ Below base w w' := by
  obtain ⟨i, hi, hzz⟩ := Option.map_eq_some_iff.1 hinfo
  simp only [Prod.mk.injEq] at hzz
  obtain ⟨hz, hs, hb⟩ := hzz
  rcases B with _ | ad
  · obtain ⟨rfl, rfl⟩ := hr.none_
    refine ⟨A, c, w, ?_, by simpa using hown, World.grownBy.refl w _, Below.refl _ _⟩
    rcases hown.2 with ⟨hv, h0⟩ | ⟨g, cap, cur, hv, hg, hh, hc, hm, hsz, htk⟩
    · cases hv
      simp [Builtin.append_, run_underlying ht, sizeOf, typeInfo, hi, Builtin.lenOf, Builtin.firstCells]
    · cases hv
      simp [Builtin.append_, run_underlying ht, sizeOf, typeInfo, hi, Builtin.lenOf, Builtin.firstCells, hc, storeCells]
  · obtain ⟨v', w', hrun, h2, h3, h4⟩ := run_append_own (P := P) w base t ty e i z 1 bytes ht hi hz hs hb (by rw [hz1]; rfl) (by omega) (.slice A n c) n xs hown ad m d ys (by simpa using hr.1) hr.adds h1 h63 hbytes hbase
    have hbel : Below base w w' := (Below.refl _ _).grown h3 hbase (fun k hk => (hown.lt k hk).1)
    rcases h2.2 with ⟨hv, h0⟩ | ⟨g, cap, cur, hv, hrest⟩
    · have e0 : n + m = 0 := by simpa using h0
      subst hv
      refine ⟨none, 0, w', by rw [hrun, e0], by rw [e0] at h2 ⊢; exact h2, h3, hbel⟩
    · subst hv
      exact ⟨_, cap, w', hrun, h2, h3, hbel⟩

theorem wpList_app {P : Program} {w : World} {ops : Array Oper} {rest : List Oper} {o : Oper} {a : Act} {Q : Exit → Act → World → Prop} (hgd : o.guard = none) (s x : Operand) (t : TypeId)
    (ho : o.op = .call { callee := .builtin .append, args := #[s, x], argTypes := #[t, t] })
    (e : TypeId) (z : Value) (bytes : Nat) (ht : P.underlying t = some (.slice e)) (hinfo : (P.info? e).map (fun i => (i.zero, i.size, i.bytes)) = some (some z, 1, bytes)) (hz1 : z.cells = #[z])
    (base : Nat) (A : Option Addr) (n c : Nat) (xs : List Value) (hs : a.eval s = .slice A n c) (hown : w.ownsRow base e 1 (.slice A n c) n xs)
    (B : Option Addr) (m d : Nat) (ys : List Value) (hx : a.eval x = .slice B m d) (hr : Rd w B m ys) (h1 : ∀ u ∈ ys, u.oneCell' = true)
    (h63 : n + m ≤ maxLen) (hbytes : (n + m) * bytes ≤ 140737488355328) (hbase : base ≤ w.heap.size)
    (h : ∀ A' c' w', w'.ownsRow base e 1 (.slice A' (n + m) c') (n + m) (xs ++ ys) → w.grownBy w' (Value.slice A n c).ownBlock → Below base w w' → wpList P ops Q rest (a.put o.dst (.slice A' (n + m) c')) w') : wpList P ops Q (o :: rest) a w := by
  refine wpList_plain hgd fun K hK => ?_
  obtain ⟨A', c', w', hrun, h2, h3, h4⟩ := run_app (P := P) t o.type e z bytes ht hinfo hz1 base A n c xs hown B m d ys hr h1 h63 hbytes hbase
  unfold Oper.wp execOp
  simp only [ho, resolve, invoke, builtin, Sem.run_bind, Sem.run_pure, Result.andThen_ok, List.map_toArray, List.map_cons, List.map_nil, hs, hx, hrun]
  exact hK _ _ (h A' c' w' h2 h3 h4)

/-- append onto an own row, as one operation of a region that draws its order. -/
theorem op_app {P : Program} {w : World} {o : Oper} {a : Act} {K : Act → World → Prop} {Q : Exit → Act → World → Prop} (s x : Operand) (t : TypeId)
    (ho : o.op = .call { callee := .builtin .append, args := #[s, x], argTypes := #[t, t] })
    (e : TypeId) (z : Value) (bytes : Nat) (ht : P.underlying t = some (.slice e)) (hinfo : (P.info? e).map (fun i => (i.zero, i.size, i.bytes)) = some (some z, 1, bytes)) (hz1 : z.cells = #[z])
    (base : Nat) (A : Option Addr) (n c : Nat) (xs : List Value) (hs : a.eval s = .slice A n c) (hown : w.ownsRow base e 1 (.slice A n c) n xs)
    (B : Option Addr) (m d : Nat) (ys : List Value) (hx : a.eval x = .slice B m d) (hr : Rd w B m ys) (h1 : ∀ u ∈ ys, u.oneCell' = true)
    (h63 : n + m ≤ maxLen) (hbytes : (n + m) * bytes ≤ 140737488355328) (hbase : base ≤ w.heap.size)
    (h : ∀ A' c' w', w'.ownsRow base e 1 (.slice A' (n + m) c') (n + m) (xs ++ ys) → w.grownBy w' (Value.slice A n c).ownBlock → Below base w w' → K (a.put o.dst (.slice A' (n + m) c')) w') : Oper.wp P o a w K Q := by
  obtain ⟨A', c', w', hrun, h2, h3, h4⟩ := run_app (P := P) t o.type e z bytes ht hinfo hz1 base A n c xs hown B m d ys hr h1 h63 hbytes hbase
  unfold Oper.wp execOp
  simp only [ho, resolve, invoke, builtin, Sem.run_bind, Sem.run_pure, Result.andThen_ok, List.map_toArray, List.map_cons, List.map_nil, hs, hx, hrun]
  exact h A' c' w' h2 h3 h4

theorem Blk.setRow {w : World} {g : Nat} {t : TypeId} {cs : List Value} (h : Blk w g t cs) (new : List Value) : Blk (w.setRow g (arr new)) g t new := setRow_heap w g _ _ t (0, 0) h
theorem below_setRow {B : Nat} {a w : World} (h : Below B a w) {g : Nat} (hg : B ≤ g) (cs : Array Value) : Below B a (w.setRow g cs) :=
  h.trans ⟨rfl, rfl, rfl, by simp, fun k hk => setRow_other w g k cs (by omega)⟩
theorem below_drewN {B : Nat} {a w : World} (h : Below B a w) (n : Nat) : Below B a (w.drewN n) := ⟨h.os, h.tape, h.output, h.size, h.block⟩

theorem str_data (xs : List UInt8) : (str xs).data.toList = xs := by simp [str]
theorem str_of (s : ByteArray) : str s.data.toList = s := by simp [str]
@[simp] theorem str_toList (xs : List UInt8) : (str xs).toList = xs := by rw [ByteArray.toList_eq]; exact str_data xs
@[simp] theorem str_size (xs : List UInt8) : (str xs).size = xs.length := by simp [str, ByteArray.size]

/-- x[lo:], x of one-cell elements. -/
theorem run_slTail {P : Program} (t e : TypeId) (ht : P.underlying t = some (.slice e)) (hs : (P.info? e).map (·.size) = some 1) (A : Option Addr) (l c : Nat) (lo : Int) (lo' : Nat) (elo : lo = lo') (h1 : lo' ≤ l) (w : World) :
    (Instr.slice t (.slice A l c) (some (.int .i64 lo)) none none).run P w = .ok (.slice (cutA A lo' c) (l - lo') (c - lo')) w := by
  subst elo
  obtain ⟨i, hi, hsz⟩ := Option.map_eq_some_iff.1 hs
  have a1 : (lo' : Int) ≤ (l : Int) := by omega
  simp [Instr.slice, run_underlying ht, Instr.sliceBounds, run_sliceBound, sizeOf, typeInfo, hi, hsz, cutA, a1]

/-- x[:h:m]. -/
theorem run_slHead {P : Program} (t e : TypeId) (ht : P.underlying t = some (.slice e)) (hs : (P.info? e).map (·.size) = some 1) (A : Option Addr) (l c : Nat) (hi mx : Int) (h' m' : Nat) (eh : hi = h') (em : mx = m') (h1 : h' ≤ m') (h2 : m' ≤ c) (w : World) :
    (Instr.slice t (.slice A l c) none (some (.int .i64 hi)) (some (.int .i64 mx))).run P w = .ok (.slice A h' m') w := by
  subst eh em
  obtain ⟨i, hi, hsz⟩ := Option.map_eq_some_iff.1 hs
  have a1 : (h' : Int) ≤ (m' : Int) := by omega
  have a2 : (m' : Int) ≤ (c : Int) := by omega
  have hA : A.map (fun a => a.add 0) = A := by cases A <;> simp [Addr.add]
  simp [Instr.slice, run_underlying ht, Instr.sliceBounds, run_sliceBound, sizeOf, typeInfo, hi, hsz, a1, a2, hA]
/-- x[:h]. -/
theorem run_slTo {P : Program} (t e : TypeId) (ht : P.underlying t = some (.slice e)) (hs : (P.info? e).map (·.size) = some 1) (A : Option Addr) (l c : Nat) (hi : Int) (h' : Nat) (eh : hi = h') (h1 : h' ≤ c) (w : World) :
    (Instr.slice t (.slice A l c) none (some (.int .i64 hi)) none).run P w = .ok (.slice A h' c) w := by
  subst eh
  obtain ⟨i, hi, hsz⟩ := Option.map_eq_some_iff.1 hs
  have a1 : (h' : Int) ≤ (c : Int) := by omega
  have hA : A.map (fun a => a.add 0) = A := by cases A <;> simp [Addr.add]
  simp [Instr.slice, run_underlying ht, Instr.sliceBounds, run_sliceBound, sizeOf, typeInfo, hi, hsz, a1, hA]

/-- copy(x[lo:], s), s a text that fits. -/
theorem run_cps {P : Program} (dT sT ty e : TypeId) (hu : P.underlying dT = some (.slice e)) (hs : (P.info? e).map (·.size) = some 1) (w : World) (g lo N dl dc : Nat) (s : ByteArray) (cur : List Value) (h : Blk w g e cur)
    (hN : lo + s.size ≤ N) (hc : N = cur.length) (hdl : s.size ≤ dl) :
    (Builtin.copy_ #[dT, sT] ty #[.slice (cutA (some ⟨g, 0, none⟩) lo N) dl dc, .string s]).run P w = .ok (.int .i64 (s.size : Int)) (w.setRow g (arr (cur.take lo ++ bv s.data.toList ++ cur.drop (lo + s.size)))) := by
  obtain ⟨i, hi, hsz⟩ := Option.map_eq_some_iff.1 hs
  have hlen : (bv s.data.toList).length = s.size := by rw [bv_length, Array.length_toList]; rfl
  have hmin : Nat.min s.size dl = s.size := Nat.min_eq_left hdl
  have htk : List.take s.size (List.map (fun b : UInt8 => Value.int IntKind.u8 (b.toNat : Int)) s.data.toList) = bv s.data.toList := List.take_of_length_le (Nat.le_of_eq hlen)
  have hgo : ∀ o, o + s.size ≤ cur.length → (Builtin.copy_ #[dT, sT] ty #[.slice (some ⟨g, o, none⟩) dl dc, .string s]).run P w = .ok (.int .i64 (s.size : Int)) (w.setRow g (arr (cur.take o ++ bv s.data.toList ++ cur.drop (o + s.size)))) := by
    intro o ho
    have hst := run_storeCells_at P g o e (bv s.data.toList) 0 (arr cur) w h (by rw [hlen, arr_size]; simpa using ho) (bv_one _)
    rw [hlen, arr_toList] at hst
    simp only [Nat.add_zero] at hst
    simp [Builtin.copy_, run_underlying hu, Builtin.lenOf, Builtin.firstCells, sizeOf, typeInfo, hi, hsz, hmin, htk, hst, goInt, arr]
  unfold cutA
  split
  · have h0 : s.size = 0 := by omega
    have hb : bv s.data.toList = [] := List.eq_nil_of_length_eq_zero (by rw [hlen]; exact h0)
    have := hgo 0 (by omega)
    rw [hb, h0] at this ⊢
    rw [this]
    simp
  · rw [Option.map_some, add_at, Nat.zero_add]
    exact hgo lo (by omega)

/-- []byte(s): in memory of its own. -/
theorem run_toBs {P : Program} (w : World) (src dst e : TypeId) (s : ByteArray) (hs : P.underlying src = some .string) (hd : P.underlying dst = some (.slice e)) (he : P.underlying e = some (.int .u8)) :
    ∃ c W, (convert src dst (.string s)).run P w = .ok (.slice (some ⟨w.heap.size, 0, none⟩) s.size c) W ∧ Rd W (some ⟨w.heap.size, 0, none⟩) s.size (bv s.data.toList) ∧ Below w.heap.size w W ∧ s.size ≤ c := by
  refine ⟨_, _, run_bytes_of_string w src dst e s hs hd he, ⟨?_, fun _ => ⟨w.heap.size, 0, rfl, ?_, fun i v hv => ?_⟩⟩, ?_, grownCap_ge w _ _ _⟩
  · rw [bv_length, Array.length_toList]; rfl
  · simp
  · have hi : i < s.size := by
      have := (List.getElem?_eq_some_iff.1 hv).1
      rw [bv_length, Array.length_toList] at this
      exact this
    have hh : (w.drew.alloc (.cells (bytesRow s (grownCap w s.size 0 e)) e ((bytesRow s (grownCap w s.size 0 e)).size, (bytesRow s (grownCap w s.size 0 e)).size + 1))).heap[w.heap.size]? = some (.cells (bytesRow s (grownCap w s.size 0 e)) e ((bytesRow s (grownCap w s.size 0 e)).size, (bytesRow s (grownCap w s.size 0 e)).size + 1)) := by
      show (w.heap.push _)[w.heap.size]? = _
      simp
    unfold World.cell?
    simp only [hh, Nat.zero_add]
    rw [bytesRow, Array.getElem?_append_left (by simpa using hi)]
    rw [bv, List.getElem?_map] at hv
    rw [Array.getElem?_map, ← Array.getElem?_toList]
    exact hv
  · exact ((Below.refl _ _).drew).alloc (Nat.le_refl _) _

theorem wpList_toBs {P : Program} {w : World} {ops : Array Oper} {rest : List Oper} {o : Oper} {a : Act} {Q : Exit → Act → World → Prop} (hgd : o.guard = none) (x : Operand) (src dst e : TypeId) (ho : o.op = .convert src dst x)
    (s : ByteArray) (hx : a.eval x = .string s) (hs : P.underlying src = some .string) (hd : P.underlying dst = some (.slice e)) (he : P.underlying e = some (.int .u8))
    (h : ∀ c W, Rd W (some ⟨w.heap.size, 0, none⟩) s.size (bv s.data.toList) → Below w.heap.size w W → s.size ≤ c → wpList P ops Q rest (a.put o.dst (.slice (some ⟨w.heap.size, 0, none⟩) s.size c)) W) : wpList P ops Q (o :: rest) a w := by
  refine wpList_plain hgd fun K hK => ?_
  obtain ⟨c, W, hrun, h2, h3, h4⟩ := run_toBs (P := P) w src dst e s hs hd he
  unfold Oper.wp execOp
  simp only [ho, Sem.run_bind, hx, hrun, Result.andThen_ok]
  exact hK _ _ (h c W h2 h3 h4)

theorem Blk.own {w : World} {g : Nat} {e : TypeId} {cs : List Value} (h : Blk w g e cs) {base : Nat} (hb : base ≤ g) (n : Nat) (hn : cs.length = n) (hm : n ≤ maxLen) : w.ownsRow base e 1 (.slice (some ⟨g, 0, none⟩) n n) n cs :=
  ⟨by omega, .inr ⟨g, n, arr cs, rfl, hb, h, Nat.le_refl _, hm, by rw [arr_size]; omega, by rw [arr_toList, List.take_of_length_le (by omega)]⟩⟩
theorem own_keep {w w' : World} {base : Nat} {e : TypeId} {A : Option Addr} {n c : Nat} {xs : List Value} (h : w.ownsRow base e 1 (.slice A n c) n xs) (hb : Below w.heap.size w w') : w'.ownsRow base e 1 (.slice A n c) n xs := by
  refine ⟨h.1, ?_⟩
  rcases h.2 with h2 | ⟨g, cap, cur, hv, hg, hh, r⟩
  · exact .inl h2
  · exact .inr ⟨g, cap, cur, hv, hg, (hb.block g (Blk.lt (t := e) (cs := cur.toList) (by simpa [Blk, arr] using hh))).trans hh, r⟩

theorem rd_one (w : World) (t : TypeId) (v : Value) : Rd (w.alloc (.cells #[v] t)) (some ⟨w.heap.size, 0, none⟩) 1 [v] := (Blk.new w t [v]).rd

/-- A slice is handed back that reads as vs; what was there is as it was. -/
def RetSl (n : Nat) (vs : List Value) (w : World) (e : Ending) (w' : World) : Prop := ∃ C k, e = .returned (.slice C n k) ∧ n ≤ k ∧ Rd w' C n vs ∧ Below w.heap.size w w'
theorem own_cap {w : World} {base : Nat} {e : TypeId} {A : Option Addr} {n c : Nat} {xs : List Value} (h : w.ownsRow base e 1 (.slice A n c) n xs) : n ≤ c := by
  rcases h.2 with ⟨hv, h0⟩ | ⟨g, cap, cur, hv, hg, hh, hc, r⟩
  · omega
  · injection hv with _ _ hk
    omega

/-- A slice of the call's own is handed back. -/
def RetOwn (e : TypeId) (n : Nat) (vs : List Value) (w : World) (x : Ending) (w' : World) : Prop := ∃ C k, x = .returned (.slice C n k) ∧ w'.ownsRow w.heap.size e 1 (.slice C n k) n vs ∧ Below w.heap.size w w'
theorem RetOwn.sl {e : TypeId} {n : Nat} {vs : List Value} {w : World} {x : Ending} {w' : World} (h : RetOwn e n vs w x w') : RetSl n vs w x w' := by
  obtain ⟨C, k, h1, h2, h3⟩ := h
  exact ⟨C, k, h1, own_cap h2, own_rd h2, h3⟩
/-- The block behind a row of the call's own. -/
theorem own_blk {w : World} {base : Nat} {e : TypeId} {A : Option Addr} {n c : Nat} {xs : List Value} (h : w.ownsRow base e 1 (.slice A n c) n xs) (hn : 0 < n) : ∃ g rest, A = some ⟨g, 0, none⟩ ∧ base ≤ g ∧ Blk w g e (xs ++ rest) := by
  rcases h.2 with ⟨_, h0⟩ | ⟨g, cap, cur, hv, hg, hh, hc, hm, hs, ht⟩
  · omega
  · injection hv with hA _ _
    refine ⟨g, cur.toList.drop n, hA, hg, ?_⟩
    have e1 : xs ++ cur.toList.drop n = cur.toList := by
      rw [← ht]
      simp
    rw [e1, Blk, arr]
    simpa using hh

theorem Blk.front {w : World} {g : Nat} {t : TypeId} {xs rest : List Value} (h : Blk w g t (xs ++ rest)) (n : Nat) (hn : xs.length = n) : Rd w (some ⟨g, 0, none⟩) n xs :=
  ⟨hn, fun _ => ⟨g, 0, rfl, h.lt, fun i v hv => by
    rw [Nat.zero_add, h.cell, List.getElem?_append_left (List.getElem?_eq_some_iff.1 hv).1]
    exact hv⟩⟩

/-- What is handed on of a block: that it reads, in a later world. -/
theorem Blk.reads {w w' : World} {g : Nat} {t : TypeId} {cs : List Value} (h : Blk w g t cs) (hb : Below w.heap.size w w') (n : Nat) (hn : cs.length = n) : Rd w' (some ⟨g, 0, none⟩) n cs := by
  subst hn
  exact (h.keep hb).rd

theorem below_unN {w w' : World} {n : Nat} (h : Below (w.drewN n).heap.size (w.drewN n) w') : Below w.heap.size w w' := ⟨h.os, h.tape, h.output, h.size, h.block⟩

/-! ### What a slice that came in is told as -/
theorem rd_of_cells {k : IntKind} {w : World} {x : Addr} {len cap : Nat} {zs : List Int} (hl : len ≤ cap) (hz : zs.length = cap) (hc : ∀ i, i < zs.length → w.cell? (x.add i) = some (.int k (zs.getD i 0))) :
    Rd w (some x) len ((zs.take len).map (Value.int k)) := by
  refine ⟨by simp; omega, fun h0 => ?_⟩
  have c0 := hc 0 (by omega)
  have hx : x.add 0 = x := by simp [Addr.add]
  rw [hx] at c0
  obtain ⟨b, o, sp⟩ := x
  have hs : sp = none := World.cell?_spot c0
  subst hs
  refine ⟨b, o, rfl, block_lt_of_cell c0, fun i v hv => ?_⟩
  have hi : i < len := by have := (List.getElem?_eq_some_iff.1 hv).1; simp at this; omega
  have := hc i (by omega)
  rw [add_at] at this
  rw [this]
  rw [List.getElem?_map, List.getElem?_take_of_lt hi, List.getElem?_eq_getElem (by omega)] at hv
  rw [List.getD_eq_getElem?_getD, List.getElem?_eq_getElem (by omega)]
  simpa using hv
theorem rd_bytes {w : World} {a : Option Addr} {len cap : Nat} {zs : List Int}
    (h : (a = none ∧ len = 0 ∧ cap = 0 ∧ zs = []) ∨ ∃ x, a = some x ∧ len ≤ cap ∧ cap ≤ maxLen ∧ zs.length = cap ∧ (∀ i, i < zs.length → w.cell? (x.add i) = some (.int .u8 (zs.getD i 0))) ∧ ∀ n ∈ zs, (Lit.int .u8 n).wf = true) :
    ∃ xs : List UInt8, Rd w a len (bv xs) ∧ xs.length = len ∧ len ≤ cap ∧ cap ≤ maxLen := by
  rcases h with ⟨rfl, rfl, rfl, rfl⟩ | ⟨x, rfl, hl, hm, hz, hc, hw⟩
  · exact ⟨[], Rd.nil _ _, rfl, Nat.le_refl _, Nat.zero_le _⟩
  · refine ⟨(zs.take len).map fun n => UInt8.ofNat n.toNat, ?_, by simp; omega, hl, hm⟩
    have := rd_of_cells hl hz hc
    have e : bv ((zs.take len).map fun n => UInt8.ofNat n.toNat) = (zs.take len).map (Value.int .u8) := by
      rw [bv, List.map_map]
      apply List.map_congr_left
      intro n hn
      have hwf := hw n (List.mem_of_mem_take hn)
      have hb : 0 ≤ n ∧ n ≤ 255 := by simpa [Lit.wf, IntKind.min, IntKind.max, IntKind.bits, IntKind.signed] using hwf
      simp only [Function.comp, UInt8.toNat_ofNat']
      congr 1
      omega
    rw [e]
    exact this
theorem rd_ints {w : World} {a : Option Addr} {len cap : Nat} {zs : List Int}
    (h : (a = none ∧ len = 0 ∧ cap = 0 ∧ zs = []) ∨ ∃ x, a = some x ∧ len ≤ cap ∧ cap ≤ maxLen ∧ zs.length = cap ∧ (∀ i, i < zs.length → w.cell? (x.add i) = some (.int .i64 (zs.getD i 0))) ∧ ∀ n ∈ zs, (Lit.int .i64 n).wf = true) :
    ∃ xs : List Int, Rd w a len (iv xs) ∧ xs.length = len ∧ len ≤ cap ∧ cap ≤ maxLen ∧ ∀ n ∈ xs, (Lit.int .i64 n).wf = true := by
  rcases h with ⟨rfl, rfl, rfl, rfl⟩ | ⟨x, rfl, hl, hm, hz, hc, hw⟩
  · exact ⟨[], Rd.nil _ _, rfl, Nat.le_refl _, Nat.zero_le _, by simp⟩
  · exact ⟨zs.take len, rd_of_cells hl hz hc, by simp; omega, hl, hm, fun n hn => hw n (List.mem_of_mem_take hn)⟩

/-- What was kept is kept on. -/
theorem below_on {v w w' : World} (h : Below v.heap.size v w) (b : Below w.heap.size w w') : Below v.heap.size v w' := h.trans (b.mono h.size)

/-- In the middle of a region that draws its order more may be asked of the worlds that follow. -/
theorem wpAnyH_strong {P : Program} {md : Region.Mode} {ops : Array Oper} {Q : Exit → Act → World → Prop} {S S' : World → Prop} (hS : ∀ w, S' w → S w) :
    ∀ {fuel : Nat} {listed : Array Bool} {a : Act} {w : World}, wpAnyH P md ops Q S' fuel listed a w → wpAnyH P md ops Q S fuel listed a w
  | 0, _, _, _, h => h
  | _ + 1, _, _, _, h => ⟨h.1, fun i hi => wpOp_mono (fun _ w' h' => ⟨hS w' h'.1, wpAnyH_strong hS h'.2⟩) (h.2 i hi)⟩

theorem Rd.tail {w : World} {A : Option Addr} {l : Nat} {vs : List Value} (h : Rd w A l vs) (lo c : Nat) (hn : lo ≤ l) (hc : l ≤ c) : Rd w (cutA A lo c) (l - lo) (vs.drop lo) := by
  have := h.cut lo (l - lo) c (by omega) hc
  rwa [List.take_of_length_le (by rw [List.length_drop, h.1]; exact Nat.le_refl _)] at this
theorem bv_drop (xs : List UInt8) (i : Nat) : (bv xs).drop i = bv (xs.drop i) := by simp [bv, List.map_drop]
theorem iv_drop (xs : List Int) (i : Nat) : (iv xs).drop i = iv (xs.drop i) := by simp [iv, List.map_drop]

theorem wrap_nat (n : Nat) (h : n ≤ 9223372036854775807) : IntKind.i64.wrap (n : Int) = (n : Int) := by
  rw [IntKind.wrap_i64]
  omega
theorem wrap_sub2 (l : Nat) (h : l ≤ 9223372036854775807) : IntKind.i64.wrap ((l : Int) - 2) = (l : Int) - 2 := by
  rw [IntKind.wrap_i64]
  omega
theorem Rd.upto {w : World} {A : Option Addr} {l : Nat} {xs : List UInt8} (h : Rd w A l (bv xs)) (n c : Nat) (hn : n ≤ l) (hc : l ≤ c) : Rd w A n (bv (xs.take n)) := by
  have := h.cut 0 n c (by omega) hc
  rwa [cutA_zero, List.drop_zero, show (bv xs).take n = bv (xs.take n) by simp [bv, List.map_take]] at this
theorem u8_nat {n : Int} (h : (Lit.int .u8 n).wf = true) : ∃ x : Nat, n = (x : Int) ∧ x < 256 := by
  have hb : 0 ≤ n ∧ n ≤ 255 := by simpa [Lit.wf, IntKind.min, IntKind.max, IntKind.bits, IntKind.signed] using h
  exact ⟨n.toNat, by omega, by omega⟩
theorem i64_le {n : Int} (h : (Lit.int .i64 n).wf = true) : n ≤ 9223372036854775807 := by
  have : -9223372036854775808 ≤ n ∧ n ≤ 9223372036854775807 := by simpa [Lit.wf, IntKind.min, IntKind.max, IntKind.bits, IntKind.signed] using h
  exact this.2
theorem i64_ge {n : Int} (h : (Lit.int .i64 n).wf = true) : -9223372036854775808 ≤ n := by
  have : -9223372036854775808 ≤ n ∧ n ≤ 9223372036854775807 := by simpa [Lit.wf, IntKind.min, IntKind.max, IntKind.bits, IntKind.signed] using h
  exact this.1

end Go.Proofs.YtfjafpbmgbnllaaGreat
