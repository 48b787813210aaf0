/-
  What is proved here: for the law MbapFeeds: the document's Both in memory of its own; the end of a row of frames. Conditions: lengths up to some hundred thousand.
-/
import Derived.Test.YtjldfefebnpdgaaOne6Walk
import Derived.Test.YtjldfefebnpdgaaRef6c
import Derived.Test.YtjldfefebnpdgaaRefA
namespace Go.Proofs.Ytjldfefebnpdgaa
set_option linter.unusedVariables false
set_option linter.unusedSimpArgs false
open Go.RowKit

theorem both_own (A B : Option Addr) (n m c d : Nat) (xs ys : List UInt8) (w : World) (h1 : Rd w A n (bv xs)) (h2 : Rd w B m (bv ys)) (hn : n ≤ 200000) (hm : m ≤ 200000) :
    Calls Try.prog 17 #[.slice A n c, .slice B m d] w (RetOwn 5 (n + m) (bv (xs ++ ys)) w) := by
  go_enter Try.func17, Try.ntmps17
  go_wp2_with (first
    | (at_builtin; refine wpList_app rfl (.tmp 6) (.tmp 7) 22 rfl 5 _ _ Try.underlying22 u8_info rfl w.heap.size none 0 0 [] rfl (World.ownsRow_nil _ _ _ _) A n c (bv xs) rfl h1 (bv_one _) (by unfold maxLen; omega) (by omega) (Nat.le_refl _) ?_; intro A1 c1 w1 o1 g1 b1; rw [Nat.zero_add, List.nil_append] at o1)
    | (at_builtin; refine wpList_app rfl (.tmp 9) (.tmp 10) 22 rfl 5 _ _ Try.underlying22 u8_info rfl w.heap.size A1 n c1 (bv xs) rfl o1 B m d (bv ys) rfl (h2.keep b1) (bv_one _) (by unfold maxLen; omega) (by omega) b1.size ?_; intro A2 c2 w2 o2 g2 b2; rw [← bv_append] at o2))
  go_ret
  exact ⟨A2, c2, rfl, o2, b1.trans b2⟩

/-- Where x[lo:] begins, an element of s cells. -/
def cutAS (s : Nat) (A : Option Addr) (lo c : Nat) : Option Addr := if c = lo then A else A.map fun a => a.add (lo * s)
theorem run_slTailS {P : Program} (t e : TypeId) (s : Nat) (ht : P.underlying t = some (.slice e)) (hs : (P.info? e).map (·.size) = some s) (A : Option Addr) (l c : Nat) (lo : Int) (lo' : Nat) (elo : lo = lo') (h1 : lo' ≤ l) (w : World) :
    (Instr.slice t (.slice A l c) (some (.int .i64 lo)) none none).run P w = .ok (.slice (cutAS s A lo' c) (l - lo') (c - lo')) w := by
  subst elo
  obtain ⟨i, hi, hsz⟩ := Option.map_eq_some_iff.1 hs
  have a1 : (lo' : Int) ≤ (l : Int) := by omega
  simp [Instr.slice, run_underlying ht, Instr.sliceBounds, run_sliceBound, sizeOf, typeInfo, hi, hsz, cutAS, a1]
theorem avs_drop : ∀ (rs : List AduM) (lo : Nat), (avs rs).drop (lo * 3) = avs (rs.drop lo)
  | rs, 0 => by simp
  | [], lo + 1 => by simp [avs]
  | r :: rs, lo + 1 => by
    rw [show (lo + 1) * 3 = 3 + lo * 3 by omega, ← List.drop_drop]
    show ((r.vs ++ avs rs).drop 3).drop (lo * 3) = avs (rs.drop lo)
    rw [show (r.vs ++ avs rs).drop 3 = avs rs from rfl]
    exact avs_drop rs lo
theorem ARd.tail {w : World} {O : Option Addr} {n : Nat} {rs : List AduM} (h : ARd w O n rs) (lo c : Nat) (hn : lo ≤ n) (hc : n ≤ c) : ARd w (cutAS 3 O lo c) (n - lo) (rs.drop lo) := by
  refine ⟨?_, fun r hr => h.2 r (List.mem_of_mem_drop hr)⟩
  have hl := h.len
  refine ⟨by rw [avs_length, List.length_drop, hl], fun h0 => ?_⟩
  obtain ⟨b, o, rfl, hb, hc2⟩ := h.1.at_ (k := 0) (by omega)
  unfold cutAS
  rw [if_neg (by omega), Option.map_some, add_at]
  refine ⟨b, o + lo * 3, rfl, hb, fun i v hv => ?_⟩
  rw [← avs_drop, List.getElem?_drop] at hv
  rw [Nat.add_assoc]
  exact hc2 _ _ hv
theorem sumL_le (rs : List RowE) (i : Nat) : sumL (rs.take i) ≤ sumL rs := by
  have : sumL rs = sumL (rs.take i) + sumL (rs.drop i) := by
    unfold sumL
    rw [← List.sum_append, ← List.map_append, List.take_append_drop]
  omega
theorem fewB_yes {rs : List RowE} (h : fewB rs = true) : rs.length ≤ 200 ∧ sumL rs ≤ 5000 := of_decide_eq_true h

/-- What MbapFeeds' loop keeps. -/
structure FS (w : World) (g : Nat) (rs : List RowE) (X : List UInt8) (C : Option Addr) (kC : Nat) (A : Option Addr) (k : Nat) (i : Nat) (wr : World) : Prop where
  rd : Rd wr C X.length (bv X)
  cap : X.length ≤ kC
  clt : ∀ b o, C = some ⟨b, o, none⟩ → b < wr.heap.size ∧ b ≠ g
  st : StA wr g A k (lfL X) (brB X)
  few : X.length ≤ sumL (rs.take i)
  bel : Below w.heap.size w wr

end Go.Proofs.Ytjldfefebnpdgaa
