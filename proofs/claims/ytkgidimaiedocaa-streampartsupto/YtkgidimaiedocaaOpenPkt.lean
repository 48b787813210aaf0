/-
  What is proved here: what a packet that came in as an argument is told as, with how long its strings and lists may be (the form's own reach). No condition of its own. ALSO: which packets the laws of layer 10 look at ('small'). Conditions: strings and lists as long as they may be when they come in.
-/
import Derived.Test.YtkgidimaiedocaaPkD
import Derived.ProofKit
import Derived.OpenShut
import Derived.Lib.SmallJoins
import Derived.SizedLaws
namespace Go.Proofs.Ytkgidimaiedocaa
set_option linter.unusedVariables false
set_option linter.unusedSimpArgs false
set_option maxRecDepth 100000
open Go.Joins Go.ChangeShapes Go.WideShapes Go.RowKit Go.Deep

/-- How long its strings and lists may be. -/
def PkL (p : Pk) : Prop := p.topic.length ≤ reachBytes ∧ p.payload.length ≤ reachBytes ∧ p.client.length ≤ reachBytes ∧ p.user.length ≤ reachBytes ∧ p.pass.length ≤ reachBytes ∧ p.codes.length ≤ reachBytes ∧ p.subs.length ≤ reachBytes ∧ ∀ s ∈ p.subs, s.1.length ≤ reachBytes

section
variable {H : Type} {enc : TypeId × Value → H} {w : World} {base : Nat} {held : Bool}
theorem weights_mem {P : Program} {e : TypeId} : ∀ {ds : List (DataW H)} {d : DataW H}, d ∈ ds → ∀ n ∈ d.weights P e, n ∈ DataW.weightsAll P e ds
  | d0 :: ds, d, hd, n, hn => by
    simp only [DataW.weightsAll, List.mem_append]
    rcases List.mem_cons.1 hd with rfl | hd
    · exact Or.inl hn
    · exact Or.inr (weights_mem hd n hn)
theorem pk_int {fuel : Nat} {v : Value} {x : DataW H × List MemPlace} (h : DataW.trod enc Try.prog w base (fun _ => true) held fuel 3 [v] = some x) : ∃ n : Int, v = .int .i64 n := by
  obtain ⟨n, e, _⟩ := DataW.trod_int Try.underlying3 h
  injection e with e
  exact ⟨n, e⟩
theorem pk_bool {fuel : Nat} {v : Value} {x : DataW H × List MemPlace} (h : DataW.trod enc Try.prog w base (fun _ => true) held fuel 4 [v] = some x) : ∃ b : Bool, v = .bool b := by
  obtain ⟨b, e, _⟩ := DataW.trod_bool Try.underlying4 h
  injection e with e
  exact ⟨b, e⟩
theorem pk_str {fuel : Nat} {v : Value} {x : DataW H × List MemPlace} (h : DataW.trod enc Try.prog w base (fun _ => true) held fuel 9 [v] = some x) (hz : ∀ n ∈ x.1.weights Try.prog 9, n ≤ reachBytes) : ∃ s : List UInt8, v = .string (str s) ∧ s.length ≤ reachBytes := by
  obtain ⟨s, e, rfl, _⟩ := DataW.trod_string Try.underlying9 h
  injection e with e
  exact ⟨s.data.toList, by rw [e, str_of], hz _ (by simp [DataW.weights])⟩
theorem pk_codes {fuel : Nat} {v : Value} {x : DataW H × List MemPlace} (h : DataW.trod enc Try.prog w base (fun _ => true) held fuel 23 [v] = some x) (hz : ∀ n ∈ x.1.weights Try.prog 23, n ≤ reachBytes) :
    ∃ (A : Option Addr) (len cap : Nat) (xs : List Int), v = .slice A len cap ∧ Rd w A len (iv xs) ∧ xs.length = len ∧ len ≤ cap ∧ len ≤ reachBytes := by
  rcases open_ints Try.underlying23 Try.underlying3 (by kernel_rfl) h with ⟨hcs, _⟩ | ⟨x, l, c, zs, hcs, _, hl, hm, hz2, rfl, hcell, hwz⟩
  · injection hcs with hcs
    subst hcs
    exact ⟨_, _, _, [], rfl, Rd.nil _ _, rfl, Nat.le_refl _, Nat.zero_le _⟩
  · injection hcs with hcs
    subst hcs
    obtain ⟨xs, h1, h2, h3, h4, _⟩ := rd_ints (w := w) (a := some x) (len := l) (cap := c) (zs := zs) (.inr ⟨x, rfl, hl, hm, by simpa using hz2, hcell, hwz⟩)
    refine ⟨some x, l, c, xs, rfl, h1, h2, h3, ?_⟩
    have hb : Try.prog.bytesOf 3 = 8 := by kernel_rfl
    have := hz (((lits IntKind.i64 (zs.take l) : List (DataW H)).length + (lits IntKind.i64 (zs.drop l) : List (DataW H)).length) * Try.prog.bytesOf 3) (by simp [DataW.weights, Try.underlying23, lits])
    rw [hb] at this
    simp only [lits, List.length_map, List.length_take, List.length_drop] at this
    simp at hz2
    omega
theorem pk_subs {fuel : Nat} {v : Value} {x : DataW H × List MemPlace} (h : DataW.trod enc Try.prog w base (fun _ => true) held fuel 33 [v] = some x) (hz : ∀ n ∈ x.1.weights Try.prog 33, n ≤ reachBytes) :
    ∃ (A : Option Addr) (len cap : Nat) (l : List (List UInt8 × Int)), v = .slice A len cap ∧ Rd w A (len * 2) (subVs l) ∧ l.length = len ∧ len ≤ cap ∧ len ≤ reachBytes ∧ ∀ s ∈ l, s.1.length ≤ reachBytes := by
  rcases open_slice Try.underlying33 h with ⟨hcs, _⟩ | ⟨ad, len, cap, m, n, D, Pl, hcs, _, hl, hm, hmm, hx0, hi⟩
  · injection hcs with hcs
    subst hcs
    exact ⟨_, _, _, [], rfl, Rd.nil _ _, rfl, Nat.le_refl _, Nat.zero_le _, by simp⟩
  · injection hcs with hcs
    subst hcs
    simp at hmm
    have hC : Try.prog.cellsOf 79 = 2 := by kernel_rfl
    have hB : Try.prog.bytesOf 79 = 24 := by kernel_rfl
    have kS : Try.prog.cellsOf 9 = 1 := by kernel_rfl
    have kI : Try.prog.cellsOf 3 = 1 := by kernel_rfl
    rw [hC] at hi
    have hD : x.1 = .slice ((List.range len).map D) ((List.range (m - len)).map fun j => D (len + j)) := congrArg Prod.fst hx0
    have hlen : len ≤ reachBytes := by
      have := hz ((((List.range len).map D).length + ((List.range (m - len)).map fun j => D (len + j)).length) * Try.prog.bytesOf 79) (by rw [hD]; simp [DataW.weights, Try.underlying33])
      rw [hB] at this
      simp at this
      omega
    have hx : ∀ i, i < len → ∃ s : List UInt8 × Int, w.cell? (ad.add (i * 2)) = some (.string (str s.1)) ∧ w.cell? (ad.add (i * 2 + 1)) = some (.int .i64 s.2) ∧ s.1.length ≤ reachBytes := by
      intro i hi'
      obtain ⟨cs', hc, ht⟩ := hi i (by omega)
      obtain ⟨_, hcl, hat⟩ := World.cells?_some hc
      obtain ⟨xs, n', _, hxs, _, hlen', hg⟩ := DataW.trod_struct Try.underlying79 ht
      match cs', hcl, xs, hlen' with
      | [c0, c1], _, [y0, y1], _ =>
        have g0 : DataW.trod enc Try.prog w base (fun _ => true) held n' 9 [c0] = some y0 := by simpa [kS] using hg 0 _ rfl
        have g1 : DataW.trod enc Try.prog w base (fun _ => true) held n' 3 [c1] = some y1 := by simpa [kI] using hg 1 _ rfl
        have hDi : D i = .agg [y0.1, y1.1] := congrArg Prod.fst hxs
        have hw : ∀ n ∈ (D i).weights Try.prog 79, n ≤ reachBytes := fun n hn => hz n (by
          rw [hD]
          simp only [DataW.weights, Try.underlying33, List.mem_cons, List.mem_append]
          exact Or.inr (Or.inl (weights_mem (List.mem_map.2 ⟨i, List.mem_range.2 hi', rfl⟩) n hn)))
        rw [hDi] at hw
        simp only [DataW.weights, Try.underlying79] at hw
        obtain ⟨f, rfl, hf⟩ := pk_str g0 (fun n hn => hw n (DataW.weights_mem_each (j := 0) rfl rfl n hn))
        obtain ⟨q, rfl⟩ := pk_int g1
        refine ⟨(f, q), ?_, ?_, hf⟩
        · have := hat 0 (by omega)
          rw [Go.Deep.add_add] at this
          simpa using this
        · have := hat 1 (by omega)
          rw [Go.Deep.add_add] at this
          simpa using this
    let f : Nat → List UInt8 × Int := fun i => if h : i < len then Classical.choose (hx i h) else ([], 0)
    have hf : ∀ i, i < len → w.cell? (ad.add (i * 2)) = some (.string (str (f i).1)) ∧ w.cell? (ad.add (i * 2 + 1)) = some (.int .i64 (f i).2) ∧ (f i).1.length ≤ reachBytes := by
      intro i hi'
      have := Classical.choose_spec (hx i hi')
      simp only [f, dif_pos hi']
      exact this
    refine ⟨some ad, len, cap, (List.range len).map f, rfl, ⟨by rw [subVs_length]; simp, fun h0 => ?_⟩, by simp, hl, hlen, ?_⟩
    · obtain ⟨b, o, sp⟩ := ad
      have h00 := (hf 0 (by omega)).1
      have hx0 : (⟨b, o, sp⟩ : Addr).add (0 * 2) = ⟨b, o, sp⟩ := by simp [Addr.add]
      rw [hx0] at h00
      have hs : sp = none := World.cell?_spot h00
      subst hs
      refine ⟨b, o, rfl, block_lt_of_cell h00, fun i v hv => ?_⟩
      have hi' : i < len * 2 := by
        have := (List.getElem?_eq_some_iff.1 hv).1
        rw [subVs_length] at this
        simpa using this
      have hq : i / 2 < len := by omega
      have hlq : i / 2 < ((List.range len).map f).length := by simpa using hq
      obtain ⟨e0, e1⟩ := subVs_get ((List.range len).map f) (i / 2) hlq
      simp only [List.getElem_map, List.getElem_range] at e0 e1
      obtain ⟨c0, c1, _⟩ := hf (i / 2) hq
      rw [add_at] at c0 c1
      rcases Nat.mod_two_eq_zero_or_one i with h2 | h2
      · rw [show i = i / 2 * 2 by omega, e0] at hv
        rw [show o + i = o + i / 2 * 2 by omega, c0, ← hv]
      · rw [show i = i / 2 * 2 + 1 by omega, e1] at hv
        rw [show o + i = o + (i / 2 * 2 + 1) by omega, c1, ← hv]
    · intro s hs
      simp only [List.mem_map, List.mem_range] at hs
      obtain ⟨i, hi', rfl⟩ := hs
      exact (hf i hi').2.2

/-- A packet that came in. -/
theorem open_pkt {b0 : Nat} {r : Reach} {v : Value} {d : DataW H} {pl : List MemPlace} (hv : Value.okWide Try.prog w r b0 35 v) (h : DataW.Trod enc Try.prog w base (fun _ => true) held 35 v d pl) (hz : ∀ n ∈ d.weights Try.prog 35, n ≤ reachBytes) :
    ∃ (p : Pk) (C : Option Addr) (nc kc : Nat) (S : Option Addr) (ns ks : Nat), v = pkA p C nc kc S ns ks ∧ PkM w p C nc kc S ns ks ∧ PkL p := by
  obtain ⟨cs, rfl, hsz⟩ := okWide_struct Try.underlying35 hv
  have hC : Try.prog.cellsOf 35 = 18 := by kernel_rfl
  have kM : Try.prog.cellsOf 32 = 4 := by kernel_rfl
  have kS : Try.prog.cellsOf 9 = 1 := by kernel_rfl
  have kI : Try.prog.cellsOf 3 = 1 := by kernel_rfl
  have kB : Try.prog.cellsOf 4 = 1 := by kernel_rfl
  have kC : Try.prog.cellsOf 23 = 1 := by kernel_rfl
  have kF : Try.prog.cellsOf 33 = 1 := by kernel_rfl
  obtain ⟨l⟩ := cs
  match l, hsz.trans hC with
  | [c0, c1, c2, c3, c4, c5, c6, c7, c8, c9, c10, c11, c12, c13, c14, c15, c16, c17], _ =>
    obtain ⟨fuel, hf⟩ := h
    obtain ⟨xs, n, _, hx, _, hlen, hg⟩ := DataW.trod_struct Try.underlying35 hf
    match xs, hlen with
    | [y0, y1, y2, y3, y4, y5, y6, y7, y8, y9, y10, y11, y12, y13, y14], _ =>
      have hd : d = .agg [y0.1, y1.1, y2.1, y3.1, y4.1, y5.1, y6.1, y7.1, y8.1, y9.1, y10.1, y11.1, y12.1, y13.1, y14.1] := congrArg Prod.fst hx
      rw [hd] at hz
      simp only [DataW.weights, Try.underlying35] at hz
      have g0 : DataW.trod enc Try.prog w base (fun _ => true) held n 3 [c0] = some y0 := by simpa [Value.cells, kI] using hg 0 _ rfl
      have g1 : DataW.trod enc Try.prog w base (fun _ => true) held n 4 [c1] = some y1 := by simpa [Value.cells, kB] using hg 1 _ rfl
      have g2 : DataW.trod enc Try.prog w base (fun _ => true) held n 3 [c2] = some y2 := by simpa [Value.cells, kI] using hg 2 _ rfl
      have g3 : DataW.trod enc Try.prog w base (fun _ => true) held n 32 [c3, c4, c5, c6] = some y3 := by simpa [Value.cells, kM] using hg 3 _ rfl
      have g4 : DataW.trod enc Try.prog w base (fun _ => true) held n 9 [c7] = some y4 := by simpa [Value.cells, kS] using hg 4 _ rfl
      have g5 : DataW.trod enc Try.prog w base (fun _ => true) held n 4 [c8] = some y5 := by simpa [Value.cells, kB] using hg 5 _ rfl
      have g6 : DataW.trod enc Try.prog w base (fun _ => true) held n 3 [c9] = some y6 := by simpa [Value.cells, kI] using hg 6 _ rfl
      have g7 : DataW.trod enc Try.prog w base (fun _ => true) held n 4 [c10] = some y7 := by simpa [Value.cells, kB] using hg 7 _ rfl
      have g8 : DataW.trod enc Try.prog w base (fun _ => true) held n 4 [c11] = some y8 := by simpa [Value.cells, kB] using hg 8 _ rfl
      have g9 : DataW.trod enc Try.prog w base (fun _ => true) held n 4 [c12] = some y9 := by simpa [Value.cells, kB] using hg 9 _ rfl
      have g10 : DataW.trod enc Try.prog w base (fun _ => true) held n 9 [c13] = some y10 := by simpa [Value.cells, kS] using hg 10 _ rfl
      have g11 : DataW.trod enc Try.prog w base (fun _ => true) held n 9 [c14] = some y11 := by simpa [Value.cells, kS] using hg 11 _ rfl
      have g12 : DataW.trod enc Try.prog w base (fun _ => true) held n 4 [c15] = some y12 := by simpa [Value.cells, kB] using hg 12 _ rfl
      have g13 : DataW.trod enc Try.prog w base (fun _ => true) held n 23 [c16] = some y13 := by simpa [Value.cells, kC] using hg 13 _ rfl
      have g14 : DataW.trod enc Try.prog w base (fun _ => true) held n 33 [c17] = some y14 := by simpa [Value.cells, kF] using hg 14 _ rfl
      clear hg hx hf
      obtain ⟨xs, n', _, hx, _, hlen, hg⟩ := DataW.trod_struct Try.underlying32 g3
      match xs, hlen with
      | [z0, z1, z2, z3], _ =>
        have m0 : DataW.trod enc Try.prog w base (fun _ => true) held n' 9 [c3] = some z0 := by simpa [kS] using hg 0 _ rfl
        have m1 : DataW.trod enc Try.prog w base (fun _ => true) held n' 9 [c4] = some z1 := by simpa [kS] using hg 1 _ rfl
        have m2 : DataW.trod enc Try.prog w base (fun _ => true) held n' 3 [c5] = some z2 := by simpa [kI] using hg 2 _ rfl
        have m3 : DataW.trod enc Try.prog w base (fun _ => true) held n' 4 [c6] = some z3 := by simpa [kB] using hg 3 _ rfl
        have hy : y3.1 = .agg [z0.1, z1.1, z2.1, z3.1] := congrArg Prod.fst hx
        have hm : ∀ n ∈ y3.1.weights Try.prog 32, n ≤ reachBytes := fun n hn => hz n (DataW.weights_mem_each (j := 3) rfl rfl n hn)
        rw [hy] at hm
        simp only [DataW.weights, Try.underlying32] at hm
        obtain ⟨ty, rfl⟩ := pk_int g0
        obtain ⟨dup, rfl⟩ := pk_bool g1
        obtain ⟨id, rfl⟩ := pk_int g2
        obtain ⟨topic, rfl, l0⟩ := pk_str m0 (fun n hn => hm n (DataW.weights_mem_each (j := 0) rfl rfl n hn))
        obtain ⟨payload, rfl, l1⟩ := pk_str m1 (fun n hn => hm n (DataW.weights_mem_each (j := 1) rfl rfl n hn))
        obtain ⟨qos, rfl⟩ := pk_int m2
        obtain ⟨retain, rfl⟩ := pk_bool m3
        obtain ⟨client, rfl, l2⟩ := pk_str g4 (fun n hn => hz n (DataW.weights_mem_each (j := 4) rfl rfl n hn))
        obtain ⟨clean, rfl⟩ := pk_bool g5
        obtain ⟨alive, rfl⟩ := pk_int g6
        obtain ⟨hasWill, rfl⟩ := pk_bool g7
        obtain ⟨hasUser, rfl⟩ := pk_bool g8
        obtain ⟨hasPass, rfl⟩ := pk_bool g9
        obtain ⟨user, rfl, l3⟩ := pk_str g10 (fun n hn => hz n (DataW.weights_mem_each (j := 10) rfl rfl n hn))
        obtain ⟨pass, rfl, l4⟩ := pk_str g11 (fun n hn => hz n (DataW.weights_mem_each (j := 11) rfl rfl n hn))
        obtain ⟨present, rfl⟩ := pk_bool g12
        obtain ⟨C, nc, kc, codes, rfl, r1, r2, r3, l5⟩ := pk_codes g13 (fun n hn => hz n (DataW.weights_mem_each (j := 13) rfl rfl n hn))
        obtain ⟨S, ns, ks, subs, rfl, s1, s2, s3, l6, l7⟩ := pk_subs g14 (fun n hn => hz n (DataW.weights_mem_each (j := 14) rfl rfl n hn))
        exact ⟨⟨ty, dup, id, topic, payload, qos, retain, client, clean, alive, hasWill, hasUser, hasPass, user, pass, present, codes, subs⟩, C, nc, kc, S, ns, ks, rfl, ⟨r2, r3, r1, s2, s3, s1⟩, ⟨l0, l1, l2, l3, l4, r2 ▸ l5, s2 ▸ l6, l7⟩⟩
end

end Go.Proofs.Ytkgidimaiedocaa

namespace Go.Proofs.Ytkgidimaiedocaa
set_option linter.unusedVariables false
set_option linter.unusedSimpArgs false
open Go.RowKit

def filN (l : List (List UInt8 × Int)) : Nat := (l.map fun s => s.1.length).sum
theorem filN_le : ∀ (l : List (List UInt8 × Int)), (∀ s ∈ l, s.1.length ≤ reachBytes) → filN l ≤ l.length * reachBytes
  | [], _ => by simp [filN]
  | s :: l, h => by
    have h1 := h s (by simp)
    have h2 := filN_le l (fun t ht => h t (by simp [ht]))
    simp only [filN, List.map_cons, List.sum_cons, List.length_cons] at *
    rw [Nat.add_mul, Nat.one_mul]
    omega
theorem filN_snoc (l : List (List UInt8 × Int)) (s : List UInt8 × Int) : filN (l ++ [s]) = filN l + s.1.length := by simp [filN]
theorem filN_mem : ∀ (l : List (List UInt8 × Int)), ∀ s ∈ l, s.1.length ≤ filN l
  | [], _, h => by simp at h
  | t :: l, s, h => by
    simp only [filN, List.map_cons, List.sum_cons]
    rcases List.mem_cons.1 h with rfl | h
    · omega
    · have := filN_mem l s h
      simp only [filN] at this
      omega
/-- Is it looked at? -/
def smallB (p : Pk) : Bool := decide (p.topic.length + p.payload.length + p.client.length + p.user.length + p.pass.length + p.codes.length + filN (p.subs.take 100) ≤ 2000) && decide (p.subs.length ≤ 50)
theorem smallB_short {p : Pk} (h : smallB p = true) : PkS p := by
  simp only [smallB, Bool.and_eq_true, decide_eq_true_eq] at h
  obtain ⟨h1, h2⟩ := h
  rw [List.take_of_length_le (by omega)] at h1
  refine ⟨by omega, by omega, by omega, by omega, by omega, by omega, by omega, fun s hs => ?_⟩
  have := filN_mem _ s hs
  omega

end Go.Proofs.Ytkgidimaiedocaa
