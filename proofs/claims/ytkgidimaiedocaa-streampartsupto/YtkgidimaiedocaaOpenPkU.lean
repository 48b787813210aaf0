/-
  What is proved here: what a row of packets that came in as an argument is told as, where all that came in is of bulk at most 2^20 (the second form's bound): each string and list of each packet is of at most 2^20. No other condition.
-/
import Derived.Test.YtkgidimaiedocaaStMath
namespace Go.Proofs.Ytkgidimaiedocaa
set_option linter.unusedVariables false
set_option linter.unusedSimpArgs false
set_option maxRecDepth 100000
open Go.Joins Go.ChangeShapes Go.WideShapes Go.RowKit Go.Deep

section
variable {H : Type} {enc : TypeId × Value → H} {w : World} {base : Nat} {held : Bool}
theorem bulk_one (d : DataW H) : 1 ≤ Rows.uptoBulk d := by
  cases d with
  | lit l => cases l <;> simp [Rows.uptoBulk]
  | nil => simp [Rows.uptoBulk]
  | ptr d => simp [Rows.uptoBulk]
  | slice a b => simp [Rows.uptoBulk]
  | agg a => simp [Rows.uptoBulk]
  | iface t d => simp [Rows.uptoBulk]
  | map a => simp [Rows.uptoBulk]
  | held h => simp [Rows.uptoBulk]
theorem bulk_mem {d : DataW H} : ∀ {l : List (DataW H)}, d ∈ l → Rows.uptoBulk d ≤ Rows.uptoBulkAll l
  | x :: l, h => by
    simp only [Rows.uptoBulkAll]
    rcases List.mem_cons.1 h with rfl | h
    · omega
    · have := bulk_mem h; omega
theorem bulk_len : ∀ l : List (DataW H), l.length ≤ Rows.uptoBulkAll l
  | [] => by simp [Rows.uptoBulkAll]
  | x :: l => by
    have := bulk_one x
    have := bulk_len l
    simp only [Rows.uptoBulkAll, List.length_cons]
    omega
theorem bulk_agg {d : DataW H} {l : List (DataW H)} (h : d ∈ l) : Rows.uptoBulk d ≤ Rows.uptoBulk (.agg l) := by
  have := bulk_mem h
  simp only [Rows.uptoBulk]
  omega
theorem bulk_slice {d : DataW H} {l s : List (DataW H)} (h : d ∈ l) : Rows.uptoBulk d ≤ Rows.uptoBulk (.slice l s) := by
  have := bulk_mem h
  simp only [Rows.uptoBulk]
  omega
theorem bulk_slen (l s : List (DataW H)) : l.length + s.length ≤ Rows.uptoBulk (.slice l s) := by
  have := bulk_len l
  have := bulk_len s
  simp only [Rows.uptoBulk]
  omega

theorem pku_str {K fuel : Nat} {v : Value} {x : DataW H × List MemPlace} (h : DataW.trod enc Try.prog w base (fun _ => true) held fuel 9 [v] = some x) (hz : Rows.uptoBulk x.1 ≤ K) : ∃ s : List UInt8, v = .string (str s) ∧ s.length ≤ K := by
  obtain ⟨s, e, rfl, _⟩ := DataW.trod_string Try.underlying9 h
  injection e with e
  refine ⟨s.data.toList, by rw [e, str_of], ?_⟩
  simp only [Rows.uptoBulk] at hz
  omega
theorem pku_codes {K fuel : Nat} {v : Value} {x : DataW H × List MemPlace} (h : DataW.trod enc Try.prog w base (fun _ => true) held fuel 23 [v] = some x) (hz : Rows.uptoBulk x.1 ≤ K) :
    ∃ (A : Option Addr) (len cap : Nat) (xs : List Int), v = .slice A len cap ∧ Rd w A len (iv xs) ∧ xs.length = len ∧ len ≤ cap ∧ len ≤ K := by
  rcases open_ints Try.underlying23 Try.underlying3 (by kernel_rfl) h with ⟨hcs, _⟩ | ⟨x, l, c, zs, hcs, _, hl, hm, hz2, rfl, hcell, hwz⟩
  · injection hcs with hcs
    subst hcs
    exact ⟨_, _, _, [], rfl, Rd.nil _ _, rfl, Nat.le_refl _, Nat.zero_le _⟩
  · injection hcs with hcs
    subst hcs
    obtain ⟨xs, h1, h2, h3, h4, _⟩ := rd_ints (w := w) (a := some x) (len := l) (cap := c) (zs := zs) (.inr ⟨x, rfl, hl, hm, by simpa using hz2, hcell, hwz⟩)
    refine ⟨some x, l, c, xs, rfl, h1, h2, h3, ?_⟩
    have := bulk_slen (lits IntKind.i64 (zs.take l) : List (DataW H)) (lits IntKind.i64 (zs.drop l))
    simp only [lits, List.length_map, List.length_take, List.length_drop] at this
    simp only [lits] at hz
    simp at hz2
    omega
theorem pku_subs {K fuel : Nat} {v : Value} {x : DataW H × List MemPlace} (h : DataW.trod enc Try.prog w base (fun _ => true) held fuel 33 [v] = some x) (hz : Rows.uptoBulk x.1 ≤ K) :
    ∃ (A : Option Addr) (len cap : Nat) (l : List (List UInt8 × Int)), v = .slice A len cap ∧ Rd w A (len * 2) (subVs l) ∧ l.length = len ∧ len ≤ cap ∧ len ≤ K ∧ ∀ s ∈ l, s.1.length ≤ K := by
  rcases open_slice Try.underlying33 h with ⟨hcs, _⟩ | ⟨ad, len, cap, m, n, D, Pl, hcs, _, hl, hm, hmm, hx0, hi⟩
  · injection hcs with hcs
    subst hcs
    exact ⟨_, _, _, [], rfl, Rd.nil _ _, rfl, Nat.le_refl _, Nat.zero_le _, by simp⟩
  · injection hcs with hcs
    subst hcs
    simp at hmm
    have hC : Try.prog.cellsOf 79 = 2 := by kernel_rfl
    have kS : Try.prog.cellsOf 9 = 1 := by kernel_rfl
    have kI : Try.prog.cellsOf 3 = 1 := by kernel_rfl
    rw [hC] at hi
    have hD : x.1 = .slice ((List.range len).map D) ((List.range (m - len)).map fun j => D (len + j)) := congrArg Prod.fst hx0
    rw [hD] at hz
    have hlen : len ≤ K := by
      have := bulk_slen ((List.range len).map D) ((List.range (m - len)).map fun j => D (len + j))
      simp at this
      omega
    have hx : ∀ i, i < len → ∃ s : List UInt8 × Int, w.cell? (ad.add (i * 2)) = some (.string (str s.1)) ∧ w.cell? (ad.add (i * 2 + 1)) = some (.int .i64 s.2) ∧ s.1.length ≤ K := by
      intro i hi'
      obtain ⟨cs', hc, ht⟩ := hi i (by omega)
      obtain ⟨_, hcl, hat⟩ := World.cells?_some hc
      obtain ⟨xs, n', _, hxs, _, hlen', hg⟩ := DataW.trod_struct Try.underlying79 ht
      match cs', hcl, xs, hlen' with
      | [c0, c1], _, [y0, y1], _ =>
        have g0 : DataW.trod enc Try.prog w base (fun _ => true) held n' 9 [c0] = some y0 := by simpa [kS] using hg 0 _ rfl
        have g1 : DataW.trod enc Try.prog w base (fun _ => true) held n' 3 [c1] = some y1 := by simpa [kI] using hg 1 _ rfl
        have hDi : D i = .agg [y0.1, y1.1] := congrArg Prod.fst hxs
        have hw : Rows.uptoBulk y0.1 ≤ K := by
          have a1 := bulk_slice (s := (List.range (m - len)).map fun j => D (len + j)) (List.mem_map.2 ⟨i, List.mem_range.2 hi', rfl⟩ : D i ∈ (List.range len).map D)
          rw [hDi] at a1
          have a2 := bulk_agg (d := y0.1) (l := [y0.1, y1.1]) (by simp)
          omega
        obtain ⟨f, rfl, hf⟩ := pku_str g0 hw
        obtain ⟨q, rfl⟩ := pk_int g1
        refine ⟨(f, q), ?_, ?_, hf⟩
        · have := hat 0 (by omega)
          rw [Go.Deep.add_add] at this
          simpa using this
        · have := hat 1 (by omega)
          rw [Go.Deep.add_add] at this
          simpa using this
    let f : Nat → List UInt8 × Int := fun i => if h : i < len then Classical.choose (hx i h) else ([], 0)
    have hf : ∀ i, i < len → w.cell? (ad.add (i * 2)) = some (.string (str (f i).1)) ∧ w.cell? (ad.add (i * 2 + 1)) = some (.int .i64 (f i).2) ∧ (f i).1.length ≤ K := by
      intro i hi'
      have := Classical.choose_spec (hx i hi')
      simp only [f, dif_pos hi']
      exact this
    refine ⟨some ad, len, cap, (List.range len).map f, rfl, ⟨by rw [subVs_length]; simp, fun h0 => ?_⟩, by simp, hl, hlen, ?_⟩
    · obtain ⟨b, o, sp⟩ := ad
      have h00 := (hf 0 (by omega)).1
      have hx0 : (⟨b, o, sp⟩ : Addr).add (0 * 2) = ⟨b, o, sp⟩ := by simp [Addr.add]
      rw [hx0] at h00
      have hs : sp = none := World.cell?_spot h00
      subst hs
      refine ⟨b, o, rfl, block_lt_of_cell h00, fun i v hv => ?_⟩
      have hi' : i < len * 2 := by
        have := (List.getElem?_eq_some_iff.1 hv).1
        rw [subVs_length] at this
        simpa using this
      have hq : i / 2 < len := by omega
      have hlq : i / 2 < ((List.range len).map f).length := by simpa using hq
      obtain ⟨e0, e1⟩ := subVs_get ((List.range len).map f) (i / 2) hlq
      simp only [List.getElem_map, List.getElem_range] at e0 e1
      obtain ⟨c0, c1, _⟩ := hf (i / 2) hq
      rw [add_at] at c0 c1
      rcases Nat.mod_two_eq_zero_or_one i with h2 | h2
      · rw [show i = i / 2 * 2 by omega, e0] at hv
        rw [show o + i = o + i / 2 * 2 by omega, c0, ← hv]
      · rw [show i = i / 2 * 2 + 1 by omega, e1] at hv
        rw [show o + i = o + (i / 2 * 2 + 1) by omega, c1, ← hv]
    · intro s hs
      simp only [List.mem_map, List.mem_range] at hs
      obtain ⟨i, hi', rfl⟩ := hs
      exact (hf i hi').2.2

/-- A packet's cells. -/
theorem open_pkU {fuel : Nat} {cs : List Value} {x : DataW H × List MemPlace} (hsz : cs.length = 18) (hf : DataW.trod enc Try.prog w base (fun _ => true) held fuel 35 cs = some x) (hz : Rows.uptoBulk x.1 ≤ 1048576) :
    ∃ r : PkRow, cs = r.vs ∧ PkM w r.p r.C r.nc r.kc r.S r.ns r.ks ∧ PkU r.p := by
  have kM : Try.prog.cellsOf 32 = 4 := by kernel_rfl
  have kS : Try.prog.cellsOf 9 = 1 := by kernel_rfl
  have kI : Try.prog.cellsOf 3 = 1 := by kernel_rfl
  have kB : Try.prog.cellsOf 4 = 1 := by kernel_rfl
  have kC : Try.prog.cellsOf 23 = 1 := by kernel_rfl
  have kF : Try.prog.cellsOf 33 = 1 := by kernel_rfl
  match cs, hsz with
  | [c0, c1, c2, c3, c4, c5, c6, c7, c8, c9, c10, c11, c12, c13, c14, c15, c16, c17], _ =>
    obtain ⟨xs, n, _, hx, _, hlen, hg⟩ := DataW.trod_struct Try.underlying35 hf
    match xs, hlen with
    | [y0, y1, y2, y3, y4, y5, y6, y7, y8, y9, y10, y11, y12, y13, y14], _ =>
      have hd : x.1 = .agg [y0.1, y1.1, y2.1, y3.1, y4.1, y5.1, y6.1, y7.1, y8.1, y9.1, y10.1, y11.1, y12.1, y13.1, y14.1] := congrArg Prod.fst hx
      rw [hd] at hz
      have B : ∀ d, d ∈ [y0.1, y1.1, y2.1, y3.1, y4.1, y5.1, y6.1, y7.1, y8.1, y9.1, y10.1, y11.1, y12.1, y13.1, y14.1] → Rows.uptoBulk d ≤ 1048576 := fun d h => Nat.le_trans (bulk_agg h) hz
      have g0 : DataW.trod enc Try.prog w base (fun _ => true) held n 3 [c0] = some y0 := by simpa [kI] using hg 0 _ rfl
      have g1 : DataW.trod enc Try.prog w base (fun _ => true) held n 4 [c1] = some y1 := by simpa [kB] using hg 1 _ rfl
      have g2 : DataW.trod enc Try.prog w base (fun _ => true) held n 3 [c2] = some y2 := by simpa [kI] using hg 2 _ rfl
      have g3 : DataW.trod enc Try.prog w base (fun _ => true) held n 32 [c3, c4, c5, c6] = some y3 := by simpa [kM] using hg 3 _ rfl
      have g4 : DataW.trod enc Try.prog w base (fun _ => true) held n 9 [c7] = some y4 := by simpa [kS] using hg 4 _ rfl
      have g5 : DataW.trod enc Try.prog w base (fun _ => true) held n 4 [c8] = some y5 := by simpa [kB] using hg 5 _ rfl
      have g6 : DataW.trod enc Try.prog w base (fun _ => true) held n 3 [c9] = some y6 := by simpa [kI] using hg 6 _ rfl
      have g7 : DataW.trod enc Try.prog w base (fun _ => true) held n 4 [c10] = some y7 := by simpa [kB] using hg 7 _ rfl
      have g8 : DataW.trod enc Try.prog w base (fun _ => true) held n 4 [c11] = some y8 := by simpa [kB] using hg 8 _ rfl
      have g9 : DataW.trod enc Try.prog w base (fun _ => true) held n 4 [c12] = some y9 := by simpa [kB] using hg 9 _ rfl
      have g10 : DataW.trod enc Try.prog w base (fun _ => true) held n 9 [c13] = some y10 := by simpa [kS] using hg 10 _ rfl
      have g11 : DataW.trod enc Try.prog w base (fun _ => true) held n 9 [c14] = some y11 := by simpa [kS] using hg 11 _ rfl
      have g12 : DataW.trod enc Try.prog w base (fun _ => true) held n 4 [c15] = some y12 := by simpa [kB] using hg 12 _ rfl
      have g13 : DataW.trod enc Try.prog w base (fun _ => true) held n 23 [c16] = some y13 := by simpa [kC] using hg 13 _ rfl
      have g14 : DataW.trod enc Try.prog w base (fun _ => true) held n 33 [c17] = some y14 := by simpa [kF] using hg 14 _ rfl
      clear hg hx hf
      have B3 := B y3.1 (by simp)
      obtain ⟨xs, n', _, hx, _, hlen, hg⟩ := DataW.trod_struct Try.underlying32 g3
      match xs, hlen with
      | [z0, z1, z2, z3], _ =>
        have m0 : DataW.trod enc Try.prog w base (fun _ => true) held n' 9 [c3] = some z0 := by simpa [kS] using hg 0 _ rfl
        have m1 : DataW.trod enc Try.prog w base (fun _ => true) held n' 9 [c4] = some z1 := by simpa [kS] using hg 1 _ rfl
        have m2 : DataW.trod enc Try.prog w base (fun _ => true) held n' 3 [c5] = some z2 := by simpa [kI] using hg 2 _ rfl
        have m3 : DataW.trod enc Try.prog w base (fun _ => true) held n' 4 [c6] = some z3 := by simpa [kB] using hg 3 _ rfl
        have hy : y3.1 = .agg [z0.1, z1.1, z2.1, z3.1] := congrArg Prod.fst hx
        rw [hy] at B3
        obtain ⟨ty, rfl⟩ := pk_int g0
        obtain ⟨dup, rfl⟩ := pk_bool g1
        obtain ⟨id, rfl⟩ := pk_int g2
        obtain ⟨topic, rfl, l0⟩ := pku_str m0 (Nat.le_trans (bulk_agg (by simp)) B3)
        obtain ⟨payload, rfl, l1⟩ := pku_str m1 (Nat.le_trans (bulk_agg (by simp)) B3)
        obtain ⟨qos, rfl⟩ := pk_int m2
        obtain ⟨retain, rfl⟩ := pk_bool m3
        obtain ⟨client, rfl, l2⟩ := pku_str g4 (B _ (by simp))
        obtain ⟨clean, rfl⟩ := pk_bool g5
        obtain ⟨alive, rfl⟩ := pk_int g6
        obtain ⟨hasWill, rfl⟩ := pk_bool g7
        obtain ⟨hasUser, rfl⟩ := pk_bool g8
        obtain ⟨hasPass, rfl⟩ := pk_bool g9
        obtain ⟨user, rfl, l3⟩ := pku_str g10 (B _ (by simp))
        obtain ⟨pass, rfl, l4⟩ := pku_str g11 (B _ (by simp))
        obtain ⟨present, rfl⟩ := pk_bool g12
        obtain ⟨C, nc, kc, codes, rfl, r1, r2, r3, l5⟩ := pku_codes g13 (B _ (by simp))
        obtain ⟨S, ns, ks, subs, rfl, s1, s2, s3, l6, l7⟩ := pku_subs g14 (B _ (by simp))
        exact ⟨⟨⟨ty, dup, id, topic, payload, qos, retain, client, clean, alive, hasWill, hasUser, hasPass, user, pass, present, codes, subs⟩, C, nc, kc, S, ns, ks⟩, rfl, ⟨r2, r3, r1, s2, s3, s1⟩, ⟨l0, l1, l2, l3, l4, r2 ▸ l5, s2 ▸ l6, l7⟩⟩

/-- Packets that came in. -/
theorem open_pktsU {b0 : Nat} {r : Reach} {v : Value} {d : DataW H} {p : List MemPlace} (hv : Value.okWide Try.prog w r b0 22 v) (h : DataW.Trod enc Try.prog w base (fun _ => true) held 22 v d p) (hz : Rows.uptoBulk d ≤ 1048576) :
    ∃ (B : Option Addr) (len cap : Nat) (rs : List PkRow), v = .slice B len cap ∧ rs.length = len ∧ len ≤ cap ∧ PRd w B rs ∧ ∀ x ∈ rs, PkU x.p := by
  obtain ⟨a0, len0, cap0, rfl⟩ := okWide_slice Try.underlying22 hv
  obtain ⟨fuel, hf⟩ := h
  rcases open_slice Try.underlying22 hf with ⟨hcs, _⟩ | ⟨ad, len, cap, m, n, D, Pl, hcs, _, hl, hm, hmm, hx0, hi⟩
  · simp [Value.cells] at hcs
    obtain ⟨rfl, rfl, rfl⟩ := hcs
    exact ⟨none, 0, 0, [], rfl, rfl, Nat.le_refl _, PRd.nil _, by simp⟩
  · simp [Value.cells] at hcs
    obtain ⟨rfl, rfl, rfl⟩ := hcs
    simp at hmm
    have hC : Try.prog.cellsOf 35 = 18 := by kernel_rfl
    rw [hC] at hi
    have hD : d = .slice ((List.range len0).map D) ((List.range (m - len0)).map fun j => D (len0 + j)) := congrArg Prod.fst hx0
    rw [hD] at hz
    have hx : ∀ i, i < len0 → ∃ s : PkRow, (∀ j v, s.vs[j]? = some v → w.cell? (ad.add (i * 18 + j)) = some v) ∧ s.is w ∧ PkU s.p := by
      intro i hi'
      obtain ⟨cs', hc, ht⟩ := hi i (by omega)
      obtain ⟨_, hcl, hat⟩ := World.cells?_some hc
      have hb := bulk_slice (s := (List.range (m - len0)).map fun j => D (len0 + j)) (List.mem_map.2 ⟨i, List.mem_range.2 hi', rfl⟩ : D i ∈ (List.range len0).map D)
      obtain ⟨s, rfl, h1, h2⟩ := open_pkU hcl ht (Nat.le_trans hb hz)
      refine ⟨s, fun j v hv => ?_, h1, h2⟩
      have hj : j < 18 := by
        have := (List.getElem?_eq_some_iff.1 hv).1
        rwa [PkRow.vs_len] at this
      rw [← Go.Deep.add_add, hat j hj, hv]
    let f : Nat → PkRow := fun i => if h : i < len0 then Classical.choose (hx i h) else ⟨zeroP 0, none, 0, 0, none, 0, 0⟩
    have hf : ∀ i, i < len0 → (∀ j v, (f i).vs[j]? = some v → w.cell? (ad.add (i * 18 + j)) = some v) ∧ (f i).is w ∧ PkU (f i).p := by
      intro i hi'
      have := Classical.choose_spec (hx i hi')
      simp only [f, dif_pos hi']
      exact this
    have hmem : ∀ r ∈ (List.range len0).map f, r.is w ∧ PkU r.p := by
      intro r hr
      simp only [List.mem_map, List.mem_range] at hr
      obtain ⟨i, hi', rfl⟩ := hr
      exact (hf i hi').2
    have hlen : ((List.range len0).map f).length = len0 := by simp
    refine ⟨some ad, len0, cap0, (List.range len0).map f, rfl, hlen, hl, ⟨⟨by rw [prVs_len], fun h0 => ?_⟩, fun r hr => (hmem r hr).1⟩, fun r hr => (hmem r hr).2⟩
    rw [hlen] at h0
    obtain ⟨b, o, sp⟩ := ad
    have h00 := (hf 0 (by omega)).1 0 _ rfl
    have hx0 : (⟨b, o, sp⟩ : Addr).add (0 * 18 + 0) = ⟨b, o, sp⟩ := by simp [Addr.add]
    rw [hx0] at h00
    have hs : sp = none := World.cell?_spot h00
    subst hs
    refine ⟨b, o, rfl, block_lt_of_cell h00, fun i v hv => ?_⟩
    have hi' : i < len0 * 18 := by
      have := (List.getElem?_eq_some_iff.1 hv).1
      rw [prVs_len, hlen] at this
      exact this
    have hd : i = (i / 18) * 18 + i % 18 := by omega
    have hq : i / 18 < len0 := by omega
    rw [hd, prVs_get _ (i / 18) (i % 18) (by rw [hlen]; exact hq) (by omega)] at hv
    simp only [List.getElem_map, List.getElem_range] at hv
    have := (hf (i / 18) hq).1 (i % 18) v hv
    rw [add_at] at this
    rw [hd]
    exact this

end
end Go.Proofs.Ytkgidimaiedocaa
