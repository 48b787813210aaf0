/-
  What is proved here: requests that are sent, in memory (rows of structs of nine cells), and what slices.Clone and master's copied return. Condition: lengths up to a million.
-/
import Derived.Test.YtnialjikpoembaaMem6
import Derived.Test.YtnialjikpoembaaMsMath
import Derived.Test.YtnialjikpoembaaStructs
import Derived.Test.YtnialjikpoembaaInfo
import Derived.LoopTactic
import Derived.WalkMore
namespace Go.Proofs.Ytnialjikpoembaa
set_option linter.unusedVariables false
set_option linter.unusedSimpArgs false
open Go.RowKit

/-- What is sent, in memory. -/
structure SM where
  tk : Nat
  u : Int
  r : Rq
  V : Option Addr
  k : Nat
def SM.wt (s : SM) : Wt := ⟨s.tk, s.u, s.r⟩
/-- A request's cells. -/
def rqv (r : Rq) (V : Option Addr) (k : Nat) : List Value := [.int .i64 r.f, .int .i64 r.a, .int .i64 r.c, .slice V r.vs.length k, .int .i64 r.t, .int .i64 r.an, .int .i64 r.o]
def SM.vs (s : SM) : List Value := [.int .i64 (s.tk : Nat), .int .i64 s.u, .int .i64 s.r.f, .int .i64 s.r.a, .int .i64 s.r.c, .slice s.V s.r.vs.length s.k, .int .i64 s.r.t, .int .i64 s.r.an, .int .i64 s.r.o]
def SM.is (w : World) (s : SM) : Prop := Rd w s.V s.r.vs.length (iv s.r.vs)
def svs (rs : List SM) : List Value := rs.flatMap SM.vs
theorem svs_length (rs : List SM) : (svs rs).length = rs.length * 9 := by
  induction rs with
  | nil => rfl
  | cons r rs ih =>
    show (r.vs ++ svs rs).length = _
    rw [List.length_append, ih, List.length_cons]
    show 9 + rs.length * 9 = _
    omega
theorem svs_append (rs ss : List SM) : svs (rs ++ ss) = svs rs ++ svs ss := List.flatMap_append
theorem svs_one (rs : List SM) : ∀ u ∈ svs rs, u.oneCell' = true := by
  intro u hu
  simp only [svs, List.mem_flatMap, SM.vs] at hu
  obtain ⟨r, _, hu⟩ := hu
  simp at hu
  rcases hu with rfl | rfl | rfl | rfl | rfl | rfl | rfl | rfl | rfl <;> rfl
theorem svs_get : ∀ (rs : List SM) (i : Nat) (r : SM) (j : Nat), rs[i]? = some r → j < 9 → (svs rs)[i * 9 + j]? = r.vs[j]?
  | [], _, _, _, h, _ => by simp at h
  | x :: rs, 0, r, j, h, hj => by
    simp at h
    subst h
    show (x.vs ++ svs rs)[0 * 9 + j]? = _
    rw [List.getElem?_append_left (by show 0 * 9 + j < 9; omega)]
    congr 1
    omega
  | x :: rs, i + 1, r, j, h, hj => by
    show (x.vs ++ svs rs)[(i + 1) * 9 + j]? = _
    rw [List.getElem?_append_right (by show 9 ≤ (i + 1) * 9 + j; omega)]
    have e : (i + 1) * 9 + j - x.vs.length = i * 9 + j := by show (i + 1) * 9 + j - 9 = _; omega
    rw [e]
    exact svs_get rs i r j (by simpa using h) hj
theorem svs_take (rs : List SM) (i : Nat) : (svs rs).take (i * 9) = svs (rs.take i) := by
  induction rs generalizing i with
  | nil => simp [svs]
  | cons x rs ih =>
    cases i with
    | zero => simp [svs]
    | succ i =>
      show (x.vs ++ svs rs).take ((i + 1) * 9) = _
      rw [List.take_append, List.take_of_length_le (by show 9 ≤ (i + 1) * 9; omega)]
      show x.vs ++ (svs rs).take ((i + 1) * 9 - 9) = _
      rw [show (i + 1) * 9 - 9 = i * 9 by omega, ih]
      rfl
theorem svs_drop (rs : List SM) (i : Nat) : (svs rs).drop (i * 9) = svs (rs.drop i) := by
  induction rs generalizing i with
  | nil => simp [svs]
  | cons x rs ih =>
    cases i with
    | zero => simp [svs]
    | succ i =>
      show (x.vs ++ svs rs).drop ((i + 1) * 9) = _
      rw [List.drop_append, List.drop_of_length_le (by show 9 ≤ (i + 1) * 9; omega)]
      show [] ++ (svs rs).drop ((i + 1) * 9 - 9) = _
      rw [show (i + 1) * 9 - 9 = i * 9 by omega, ih]
      rfl

/-- Sendings lie in memory. -/
def SRd (w : World) (O : Option Addr) (n : Nat) (rs : List SM) : Prop := Rd w O (n * 9) (svs rs) ∧ ∀ r ∈ rs, r.is w
section
variable {w w' : World} {O : Option Addr} {n : Nat} {rs : List SM}
theorem SRd.nil (w : World) (O : Option Addr) : SRd w O 0 [] := ⟨Rd.nil _ _, by simp⟩
theorem SRd.len (h : SRd w O n rs) : rs.length = n := by
  have := h.1.1
  rw [svs_length] at this
  omega
theorem SRd.keep (h : SRd w O n rs) (b : Below w.heap.size w w') : SRd w' O n rs := ⟨h.1.keep b, fun r hr => Rd.keep (h.2 r hr) b⟩
theorem SRd.but {S : Nat → Prop} (h : SRd w O n rs) (b : But S w w') (ho : Off S O) (hs : ∀ r ∈ rs, Off S r.V) : SRd w' O n rs := ⟨h.1.but b ho, fun r hr => Rd.but (h.2 r hr) b (hs r hr)⟩
/-- The i-th, cell by cell. -/
theorem SRd.at_ (h : SRd w O n rs) {i : Nat} (hi : i < n) : ∃ b o r, O = some ⟨b, o, none⟩ ∧ b < w.heap.size ∧ rs[i]? = some r ∧ (∀ j v, r.vs[j]? = some v → w.cell? ⟨b, o + (i * 9 + j), none⟩ = some v) ∧ r.is w := by
  have hl := h.len
  obtain ⟨b, o, e, hb, hc⟩ := h.1.2 (by omega)
  have hr : rs[i]? = some rs[i] := List.getElem?_eq_getElem (by omega)
  refine ⟨b, o, rs[i], e, hb, hr, fun j v hv => ?_, h.2 _ (List.getElem_mem _)⟩
  have hj : j < 9 := by have := (List.getElem?_eq_some_iff.1 hv).1; exact this
  exact hc _ _ ((svs_get rs i _ j hr hj).trans hv)
end

/-- s == nil. -/
theorem nil_ints (w : World) (a : Option Addr) (n c n' c' : Nat) : (binOp .eql 35 (.slice a n c) (.slice none n' c')).run Try.prog w = .ok (.bool a.isNone) w := Lib.run_eql_slice_nil w _ _ a n c n' c' Try.underlying35
theorem own_empty1 (w : World) (t : TypeId) : (w.alloc (.cells #[] t)).ownsRow w.heap.size t 1 (.slice (some ⟨w.heap.size, 0, none⟩) 0 0) 0 [] :=
  (Blk.new w t []).own (Nat.le_refl _) 0 rfl (Nat.zero_le _)

set_option maxRecDepth 100000 in
theorem clone_any (A : Option Addr) (n k : Nat) (vs : List Int) (w : World) (h : Rd w A n (iv vs)) (hn : n ≤ 1000000) :
    Calls Try.prog 46 #[.slice A n k] w (RetOwn 3 n (iv vs) w) := by
  rcases A with _ | ad
  · obtain ⟨rfl, hv⟩ := h.none_
    have HV := hide hv
    clear h hn hv
    have q22 := nil_ints
    go_enter Try.func46, Try.ntmps46
    go_wp2
    go_ret
    rw [HV.out]
    exact ⟨none, 0, rfl, World.ownsRow_nil _ _ _ _, Below.refl _ _⟩
  · have H := hide h
    clear h
    have q22 := nil_ints
    go_enter Try.func46, Try.ntmps46
    go_wp2_with (at_builtin; refine wpList_app rfl (.tmp 5) (.tmp 6) 35 rfl 3 _ _ Try.underlying35 int_info rfl w.heap.size (some ⟨w.heap.size, 0, none⟩) 0 0 [] rfl (own_empty1 w _) (some ad) n k (iv vs) rfl (H.out.keep ((Below.refl _ _).alloc (Nat.le_refl _) _)) (iv_one _) (by unfold maxLen; omega) (by omega) (by simp) ?_; intro C ck w3 o3 g3 b3; rw [Nat.zero_add, List.nil_append] at o3; have O3 := hide o3; have B3 := hide (((Below.refl _ _).alloc (Nat.le_refl _) _).trans b3 : Below w.heap.size w w3); clear o3 g3 b3; rw [Nat.zero_add])
    go_ret
    exact ⟨C, ck, rfl, O3.out, B3.out⟩

/-- A request is handed back whose Values are new. -/
def RetCop (r : Rq) (w : World) (e : Ending) (w' : World) : Prop := ∃ C k, e = .returned (.agg (arr (rqv r C k))) ∧ w'.ownsRow w.heap.size 3 1 (.slice C r.vs.length k) r.vs.length (iv r.vs) ∧ NewAt w C ∧ Below w.heap.size w w'
theorem copied_any (r : Rq) (A : Option Addr) (k : Nat) (w : World) (h : Rd w A r.vs.length (iv r.vs)) (hn : r.vs.length ≤ 1000000) :
    Calls Try.prog 27 #[.agg #[.int .i64 r.f, .int .i64 r.a, .int .i64 r.c, .slice A r.vs.length k, .int .i64 r.t, .int .i64 r.an, .int .i64 r.o]] w (RetCop r w) := by
  obtain ⟨f, a, c, vs, t, an, o⟩ := r
  simp only at h hn ⊢
  have HC := hide (fun W hr => clone_any A vs.length k vs W hr hn)
  have HR := hide h
  clear h
  have HL : Hid (vs.length = vs.length) := rfl
  generalize hnn : vs.length = n at *
  have HN := hide hnn
  clear hnn
  go_enter Try.func27, Try.ntmps27
  go_wp2_with fail
  generalize hV : (w.alloc _).alloc _ = V
  obtain ⟨zA, zB, bV, sV⟩ := two_boxes w [.int .i64 f, .int .i64 a, .int .i64 c, .slice A n k, .int .i64 t, .int .i64 an, .int .i64 o] [.int .i64 0, .int .i64 0, .int .i64 0, .slice none 0 0, .int .i64 0, .int .i64 0, .int .i64 0] _ _ V hV.symm
  clear hV
  refine (HC.out V (HR.out.keep bV)).mono ?_
  rintro e w1 ⟨C, ck, rfl, o1, b1⟩
  have ZA := hide (zA.keep b1)
  have ZB := hide (zB.keep b1)
  have O1 := hide o1
  have B1 := hide (below_on bV b1)
  have SV := hide sV
  clear sV
  have B2 := hide b1
  clear zA zB bV b1 o1 HR HC
  obtain ⟨a0, a1, a2, a3, a4, a5, a6⟩ := ZA.out.seven
  obtain ⟨c0, c1, c2, c3, c4, c5, c6⟩ := ZB.out.seven
  have fA := ZA.out.frozen
  have fB := ZB.out.frozen
  have lA := ZA.out.lt
  have lB := ZB.out.lt
  go_wp2_with fail
  (try simp only [Exit.inBlock, Exit.then])
  refine bodyPost_ret (results_cell rfl rfl ((ZB.out.oth (by omega) _ _).set7 _ _ _ _ _ _ _) Try.underlying37 rfl (by kernel_rfl)) rfl ?_
  have hbel : ∀ W, Below w.heap.size w W → Below w.heap.size w ((((((((W.setCell ⟨w.heap.size, 3, none⟩ (.slice C n ck)).setCell ⟨w.heap.size + 1, 0, none⟩ (.int .i64 f)).setCell ⟨w.heap.size + 1, 1, none⟩ (.int .i64 a)).setCell ⟨w.heap.size + 1, 2, none⟩ (.int .i64 c)).setCell ⟨w.heap.size + 1, 3, none⟩ (.slice C n ck)).setCell ⟨w.heap.size + 1, 4, none⟩ (.int .i64 t)).setCell ⟨w.heap.size + 1, 5, none⟩ (.int .i64 an)).setCell ⟨w.heap.size + 1, 6, none⟩ (.int .i64 o)) :=
    fun W h => below_set7 (h.setCell (Nat.le_refl _) _) (Nat.le_succ _) _ _ _ _ _ _ _
  have hbut : But (fun i => i = w.heap.size ∨ i = w.heap.size + 1) w1 ((((((((w1.setCell ⟨w.heap.size, 3, none⟩ (.slice C n ck)).setCell ⟨w.heap.size + 1, 0, none⟩ (.int .i64 f)).setCell ⟨w.heap.size + 1, 1, none⟩ (.int .i64 a)).setCell ⟨w.heap.size + 1, 2, none⟩ (.int .i64 c)).setCell ⟨w.heap.size + 1, 3, none⟩ (.slice C n ck)).setCell ⟨w.heap.size + 1, 4, none⟩ (.int .i64 t)).setCell ⟨w.heap.size + 1, 5, none⟩ (.int .i64 an)).setCell ⟨w.heap.size + 1, 6, none⟩ (.int .i64 o)) :=
    (((((((((But.refl _ _).setCell' _ (Or.inl rfl)).setCell' _ (Or.inr rfl)).setCell' _ (Or.inr rfl)).setCell' _ (Or.inr rfl)).setCell' _ (Or.inr rfl)).setCell' _ (Or.inr rfl)).setCell' _ (Or.inr rfl)).setCell' _ (Or.inr rfl))
  have hnew := own_newAt O1.out
  have hs := SV.out
  have hN := HN.out
  have ho := own_but O1.out hbut (fun b o e hb => by have := hnew b o e; omega)
  refine ⟨C, ck, ?_, ?_, hnew.old (by omega), hbel _ B1.out⟩
  · subst hN
    rfl
  · subst hN
    exact own_baseN ho (fun b o e => by have := hnew b o e; omega)
end Go.Proofs.Ytnialjikpoembaa
