/-
  What is proved here: lines that lie in new memory, call by call; the chapter's examples of layer 5, asked by 'awake', come out true in every world. Conditions: as told at each.
-/
import Derived.Test.YtkbombdhdgdpnaaRtu1
import Derived.Test.YtkbombdhdgdpnaaRtu2
import Derived.Test.YtkbombdhdgdpnaaRtu3
import Derived.Test.YtkbombdhdgdpnaaBox2
namespace Go.Proofs.Ytkbombdhdgdpnaa
set_option linter.unusedVariables false
set_option linter.unusedSimpArgs false
open Go.RowKit

/-- A line lies in memory that is new since v; what was there then is as it was. -/
structure LnI (v w : World) (g : Nat) (A : Option Addr) (k : Nat) (came : List UInt8) (last gap tick : Int) : Prop where
  ln : LnA w g A k came last gap tick
  gn : v.heap.size ≤ g
  an : NewAt v A
  be : Below v.heap.size v w

section
variable {v w w' : World} {g : Nat} {A : Option Addr} {k : Nat} {came : List UInt8} {last gap tick : Int}
theorem LnI.new (h : LnI v w g A k came last gap tick) : ∀ i, lnS g A i → v.heap.size ≤ i := by
  intro i hi
  rcases hi with rfl | ⟨o, e⟩
  · exact h.gn
  · exact h.an _ _ e
theorem LnI.keep (h : LnI v w g A k came last gap tick) (b : Below w.heap.size w w') : LnI v w' g A k came last gap tick := ⟨h.ln.keep b, h.gn, h.an, below_on h.be b⟩
theorem LnI.on {A' : Option Addr} {k' : Nat} {came' : List UInt8} {last' tick' : Int} (h : LnI v w g A k came last gap tick) (l : LnA w' g A' k' came' last' gap tick') (na : A' = A ∨ NewAt w A') (b : But (lnS g A) w w') : LnI v w' g A' k' came' last' gap tick' := by
  refine ⟨l, h.gn, ?_, b.below h.be h.new h.be.size⟩
  rcases na with rfl | na
  · exact h.an
  · exact na.old h.be.size
/-- What was there at v is none of a line's. -/
theorem LnI.offOld (h : LnI v w g A k came last gap tick) {B : Option Addr} (hB : ∀ b o, B = some ⟨b, o, none⟩ → b < v.heap.size) : Off (lnS g A) B := by
  intro b o e hs
  have := h.new b hs
  have := hB b o e
  omega
/-- What is new is none of a line's. -/
theorem LnI.offNew (h : LnI v w g A k came last gap tick) {B : Option Addr} (hB : NewAt w B) : Off (lnS g A) B := by
  intro b o e hs
  have := h.ln.lt b hs
  have := hB b o e
  omega
end

theorem told_short {came : List UInt8} {last gap now : Int} (h : now - last < gap) : toldL came last gap now = [] := by unfold toldL; rw [if_pos h]
theorem left_short {came : List UInt8} {last gap now : Int} (h : now - last < gap) : leftL came last gap now = came := by unfold leftL; rw [if_pos h]
theorem told_long {came : List UInt8} {last gap now : Int} (h : ¬ now - last < gap) : toldL came last gap now = endL came := by unfold toldL; rw [if_neg h]
theorem left_long {came : List UInt8} {last gap now : Int} (h : ¬ now - last < gap) : leftL came last gap now = [] := by unfold leftL; rw [if_neg h]

/-- An answer that tells nothing. -/
def RetQ (v : World) (g : Nat) (came : List UInt8) (last gap tick : Int) (e : Ending) (w' : World) : Prop := ∃ ok A' k', e = .returned (.tuple #[.slice none 0 ok, .int .i64 0]) ∧ LnI v w' g A' k' came last gap tick
theorem RetTold.quiet {v w w' : World} {g : Nat} {A : Option Addr} {k : Nat} {came came' : List UInt8} {last gap tick last' tick' : Int} {e : Ending} (h : LnI v w g A k came last gap tick) (r : RetTold g A [] came' last' gap tick' w e w') : RetQ v g came' last' gap tick' e w' := by
  obtain ⟨O, ok, rs, A', k', rfl, r1, m1, l1, _, _, z1, _, na, b⟩ := r
  have h0 : rs = [] := List.map_eq_nil_iff.1 m1
  subst h0
  rw [z1 rfl]
  exact ⟨ok, A', k', rfl, h.on l1 na b⟩
/-- An answer that tells rows. -/
def RetR (v w : World) (g : Nat) (A : Option Addr) (told : List (List UInt8)) (came : List UInt8) (last gap tick : Int) (e : Ending) (w' : World) : Prop :=
  ∃ O n ok rs A' k', e = .returned (.tuple #[.slice O n ok, .int .i64 0]) ∧ told.length = n ∧ RRd w' O n rs ∧ rs.map RowE.xs = told ∧ LnI v w' g A' k' came last gap tick ∧ (Off (lnS g A') O ∧ ∀ r ∈ rs, Off (lnS g A') r.A) ∧ (∀ r ∈ rs, r.A = A) ∧ NewAt w O ∧ (A' = A ∨ NewAt w A') ∧ But (lnS g A) w w'
theorem RetTold.rows {v w w' : World} {g : Nat} {A : Option Addr} {k : Nat} {came came' : List UInt8} {told : List (List UInt8)} {last gap tick last' tick' : Int} {e : Ending} (h : LnI v w g A k came last gap tick) (r : RetTold g A told came' last' gap tick' w e w') : RetR v w g A told came' last' gap tick' e w' := by
  obtain ⟨O, ok, rs, A', k', rfl, r1, m1, l1, of, ra, z1, no, na, b⟩ := r
  exact ⟨O, _, ok, rs, A', k', rfl, by rw [← m1, List.length_map], r1, m1, h.on l1 na b, of, ra, no, na, b⟩

theorem feedQ {v w : World} {g : Nat} {A : Option Addr} {k : Nat} {came : List UInt8} {last gap tick : Int} (h : LnI v w g A k came last gap tick) (now : Int) (B : Option Addr) (m d : Nat) (bs : List UInt8) (hr : Rd w B m (bv bs)) (hB : Off (lnS g A) B) (hd : m ≤ d) (hm1 : m ≤ 100000)
    (h0 : 0 ≤ last) (ht : tick ≤ now) (hn : 0 ≤ now) (hl : last ≤ 4611686018427387904) (hm : now ≤ 4611686018427387904) (hs : now - last < gap) :
    Calls Try.prog 13 #[.pointer (some ⟨g, 0, none⟩), .int .i64 now, .slice B m d] w (RetQ v g (addL came bs) (lastL last now bs) gap now) := by
  have := feed_any g A k came last gap tick now B m d bs w h.ln hr hB hd hm1 h0 ht hn hl hm
  rw [told_short hs, left_short hs] at this
  exact this.mono fun e w' r => r.quiet h
theorem waitQ {v w : World} {g : Nat} {A : Option Addr} {k : Nat} {came : List UInt8} {last gap tick : Int} (h : LnI v w g A k came last gap tick) (now : Int) (h0 : 0 ≤ last) (ht : tick ≤ now) (hn : 0 ≤ now) (hl : last ≤ 4611686018427387904) (hm : now ≤ 4611686018427387904) (hs : now - last < gap) :
    Calls Try.prog 14 #[.pointer (some ⟨g, 0, none⟩), .int .i64 now] w (RetQ v g came last gap now) := by
  have := wait_any g A k came last gap tick now w h.ln h0 ht hn hl hm
  rw [told_short hs, left_short hs] at this
  exact this.mono fun e w' r => r.quiet h
theorem waitE {v w : World} {g : Nat} {A : Option Addr} {k : Nat} {came : List UInt8} {last gap tick : Int} (h : LnI v w g A k came last gap tick) (now : Int) (h0 : 0 ≤ last) (ht : tick ≤ now) (hn : 0 ≤ now) (hl : last ≤ 4611686018427387904) (hm : now ≤ 4611686018427387904) (hs : ¬ now - last < gap) :
    Calls Try.prog 14 #[.pointer (some ⟨g, 0, none⟩), .int .i64 now] w (RetR v w g A (endL came) [] last gap now) := by
  have := wait_any g A k came last gap tick now w h.ln h0 ht hn hl hm
  rw [told_long hs, left_long hs] at this
  exact this.mono fun e w' r => r.rows h
/-- Feed, behind a silence. -/
theorem feedE {v w : World} {g : Nat} {A : Option Addr} {k : Nat} {came : List UInt8} {last gap tick : Int} (h : LnI v w g A k came last gap tick) (now : Int) (B : Option Addr) (m d : Nat) (bs : List UInt8) (hr : Rd w B m (bv bs)) (hB : Off (lnS g A) B) (hd : m ≤ d) (hm1 : m ≤ 100000)
    (h0 : 0 ≤ last) (ht : tick ≤ now) (hn : 0 ≤ now) (hl : last ≤ 4611686018427387904) (hm : now ≤ 4611686018427387904) (hs : came = [] ∨ ¬ now - last < gap) :
    Calls Try.prog 13 #[.pointer (some ⟨g, 0, none⟩), .int .i64 now, .slice B m d] w (RetR v w g A (endL came) (addL [] bs) (lastL last now bs) gap now) := by
  have := feed_any g A k came last gap tick now B m d bs w h.ln hr hB hd hm1 h0 ht hn hl hm
  have e1 : toldL came last gap now = endL came := by
    rcases hs with rfl | hs
    · unfold toldL
      split <;> simp [endL]
    · exact told_long hs
  have e2 : leftL came last gap now = [] := by
    rcases hs with rfl | hs
    · unfold leftL
      split <;> rfl
    · exact left_long hs
  rw [e1, e2] at this
  exact this.mono fun e w' r => r.rows h
theorem waitS {v w : World} {g : Nat} {A : Option Addr} {k : Nat} {came : List UInt8} {last gap tick : Int} (h : LnI v w g A k came last gap tick) (now : Int) (h0 : 0 ≤ last) (ht : tick ≤ now) (hn : 0 ≤ now) (hl : last ≤ 4611686018427387904) (hm : now ≤ 4611686018427387904) (hs : came = [] ∨ ¬ now - last < gap) :
    Calls Try.prog 14 #[.pointer (some ⟨g, 0, none⟩), .int .i64 now] w (RetR v w g A (endL came) [] last gap now) := by
  have := wait_any g A k came last gap tick now w h.ln h0 ht hn hl hm
  have e1 : toldL came last gap now = endL came := by
    rcases hs with rfl | hs
    · unfold toldL
      split <;> simp [endL]
    · exact told_long hs
  have e2 : leftL came last gap now = [] := by
    rcases hs with rfl | hs
    · unfold leftL
      split <;> rfl
    · exact left_long hs
  rw [e1, e2] at this
  exact this.mono fun e w' r => r.rows h
theorem newI {gap : Int} (hg : 1 ≤ gap) (w : World) : Calls Try.prog 12 #[.int .i64 gap] w fun e w' => ∃ g, e = .returned (.tuple #[.pointer (some ⟨g, 0, none⟩), .int .i64 0]) ∧ LnI w w' g none 0 [] 0 gap 0 :=
  (rNew_ok gap hg w).mono fun e w' ⟨g, h1, h2, h3, h4⟩ => ⟨g, h1, h3, h2, NewAt.nil _, h4⟩

theorem aw5a : frL 1 [4, 2, 255, 255] = [1, 4, 2, 255, 255, 184, 128] := by decide
theorem aw5b : frE 1 4 = 0 := by decide

set_option maxHeartbeats 1000000 in
set_option maxRecDepth 100000 in
theorem awake5_any (w : World) : Calls Try.prog 10 #[] w fun e w' => e = .returned (.bool true) ∧ Below w.heap.size w w' := by
  go_enter Try.func10, Try.ntmps10
  go_wp2_with fail
  generalize hV : w.alloc _ = V0
  obtain ⟨k0, b0⟩ := box1 w 5 (bv [4, 2, 255, 255]) V0 hV.symm
  have HF := frame_any 1 _ 4 4 [4, 2, 255, 255] V0 k0.rd rfl
  unfold RetFr at HF
  rw [aw5a, show ([4, 2, 255, 255] : List UInt8).length = 4 from rfl, aw5b] at HF
  refine HF.mono ?_
  rintro e w1 ⟨C, ck, rfl, hck, rC, bC⟩
  have B1 := hide (below_on b0 bC)
  have RC := hide rC
  clear hV k0 b0 HF rC bC
  go_wp2_with fail
  refine (newI (gap := 4) (by omega) w1).mono ?_
  rintro e w2 ⟨g, rfl, L2⟩
  have H2 := hide L2
  clear L2
  go_wp2_with fail
  generalize hV : w2.alloc _ = V2
  obtain ⟨k0, b0⟩ := box1 w2 5 (bv [1]) V2 hV.symm
  refine (feedQ (H2.out.keep b0) 0 _ 1 1 [1] k0.rd (H2.out.offNew (by intro b o e; injection e with e; injection e with e1 _ _; exact Nat.le_of_eq e1)) (by omega) (by omega) (by omega) (by omega) (by omega) (by omega) (by omega) (by omega)).mono ?_
  rintro e w3 ⟨ok3, A3, k3, rfl, L3⟩
  have H3 := hide L3
  clear L3 hV k0 b0
  go_wp2_with fail
  generalize hV : w3.alloc _ = V3
  obtain ⟨k0, b0⟩ := box1 w3 5 (bv [2]) V3 hV.symm
  refine (feedQ (H3.out.keep b0) 3 _ 1 1 [2] k0.rd (H3.out.offNew (by intro b o e; injection e with e; injection e with e1 _ _; exact Nat.le_of_eq e1)) (by omega) (by omega) (by decide) (by omega) (by omega) (by decide) (by omega) (by decide)).mono ?_
  rintro e w4 ⟨ok4, A4, k4, rfl, L4⟩
  have H4 := hide L4
  clear L4 hV k0 b0
  go_wp2_with fail
  refine (waitQ H4.out 6 (by decide) (by omega) (by omega) (by decide) (by omega) (by decide)).mono ?_
  rintro e w5 ⟨ok5, A5, k5, rfl, L5⟩
  have H5 := hide L5
  clear L5
  go_wp2_with fail
  refine (waitE H5.out 7 (by decide) (by omega) (by omega) (by decide) (by omega) (by decide)).mono ?_
  rintro e w6 ⟨O, n, ok6, rs, A6, k6, rfl, hn, r6, m6, L6, _⟩
  obtain rfl : n = 1 := hn.symm.trans (by decide)
  have H6 := hide L6
  have R6 := hide r6
  have M6 := hide m6
  have d1 : ∀ c, (convert 22 9 (.slice C 7 c)).run Try.prog w6 = .ok (.string (str [1, 4, 2, 255, 255, 184, 128])) w6 := fun c => rdStr (RC.out.keep L6.be) c
  have Bz := hide (below_on B1.out L6.be)
  clear L6 r6 m6 hn
  go_wp2_with fail
  have kA : Blk (w6.alloc (.cells #[Value.int .u8 1, .int .u8 2] 5)) w6.heap.size 5 (bv [1, 2]) := Blk.new w6 5 (bv [1, 2])
  have bA : Below w6.heap.size w6 (w6.alloc (.cells #[Value.int .u8 1, .int .u8 2] 5)) := (Below.refl _ _).alloc (Nat.le_refl _) _
  generalize hV : w6.alloc (.cells #[Value.int .u8 1, .int .u8 2] 5) = V6 at *
  have hsz : V6.heap.size = w6.heap.size + 1 := by rw [← hV]; simp
  have r7 := RRd.one (w := V6) 22 ⟨some ⟨w6.heap.size, 0, none⟩, 2, [1, 2]⟩ kA.rd
  rw [hsz] at r7
  have bB : Below V6.heap.size V6 (V6.alloc (.cells #[Value.slice (some ⟨w6.heap.size, 0, none⟩) 2 2] 22)) := (Below.refl _ _).alloc (Nat.le_refl _) _
  have bC := below_on bA bB
  refine (rows_yes O _ 1 1 ok6 1 rs _ _ (R6.out.keep bC) r7 (by omega) (by omega) (M6.out.trans (by show _ = [[1, 2]]; decide))).mono ?_
  rintro e w7 ⟨rfl, b7⟩
  have Bf := hide (below_on Bz.out (below_on bC b7))
  clear kA bA hV r7 bB bC b7
  go_wp2_with fail
  go_ret
  exact ⟨rfl, Bf.out⟩

end Go.Proofs.Ytkbombdhdgdpnaa
