/-
  What is proved here: the document's own reader of layer 10 (Read.byte1, word, text), its bytes staying in old memory. Condition: at most 2^40 bytes. ALSO: what the document's own connectRead of layer 10 returns. Condition: at most 2^40 bytes.
-/
import Derived.Test.YtdlhcecmodefkaaPkR
import Derived.Test.YtdlhcecmodefkaaPkLd
import Derived.Test.YtdlhcecmodefkaaPkMsg
import Derived.Deep.DeepCutAuto
namespace Go.Proofs.Ytdlhcecmodefkaa
set_option linter.unusedVariables false
set_option linter.unusedSimpArgs false
open Go.RowKit

/-- A reader in memory. -/
def RdL (L : Nat) (w : World) (g : Nat) (s : Rdr) : Prop := ∃ (A : Option Addr) (k : Nat), Blk w g 71 [.slice A s.1.length k, .bool s.2] ∧ s.1.length ≤ k ∧ Rd w A s.1.length (bv s.1) ∧ ∀ a, A = some a → a.block < L
theorem cutA_loc {A : Option Addr} {L : Nat} (h : ∀ a, A = some a → a.block < L) (lo k : Nat) : ∀ a, cutA A lo k = some a → a.block < L := by
  intro a e
  unfold cutA at e
  split at e
  · exact h a e
  · obtain ⟨a', e1, rfl⟩ := Option.map_eq_some_iff.1 e
    have h1 := h a' e1
    unfold Addr.add
    by_cases hj : lo = 0 <;> simpa [hj] using h1
variable {L : Nat}

theorem rdBL_any (g : Nat) (s : Rdr) (w : World) (h : RdL L w g s) (hl : s.1.length ≤ 1099511627776) : Calls Try.prog 44 #[.pointer (some ⟨g, 0, none⟩)] w fun e w' =>
    e = .returned (.int .i64 ((rB s).1 : Int)) ∧ RdL L w' g (rB s).2 ∧ AftR g w w' := by
  obtain ⟨xs, bad⟩ := s
  obtain ⟨A, k, hB, hk, hR, hLo⟩ := h
  have HLo := hide hLo
  clear hLo
  have c0 := hB.cell 0
  have c1 := hB.cell 1
  have f0 := hB.frozen
  simp only [List.getElem?_cons_zero, List.getElem?_cons_succ] at c0 c1
  have HB := hide hB
  have HR := hide hR
  clear hB hR
  cases xs with
  | nil =>
    simp only [List.length_nil] at c0 hk hl
    go_enter Try.func44, Try.ntmps44
    go_wp2_with fail
    go_ret
    refine ⟨rfl, ⟨A, k, HB.out.set 1 (.bool true), hk, HR.out.u8set (HB.out.cell 1) (fun _ e => by cases e) _, HLo.out⟩, But.setCell w _ rfl, fun _ _ _ hr => hr.u8set (HB.out.cell 1) (fun _ e => by cases e) _⟩
  | cons c t =>
    obtain ⟨n, hn⟩ : ∃ n, t.length = n := ⟨_, rfl⟩
    have hn1 : (c :: t).length = n + 1 := by rw [List.length_cons, hn]
    simp only [hn1] at c0 hk hl
    obtain ⟨b, o, hA, hbl, hc⟩ := HR.out.at_ (k := 0) (by simp)
    subst hA
    have c2 : w.cell? ⟨b, o, none⟩ = some (.int .u8 c.toNat) := hc 0 _ rfl
    have hc8 := c.toNat_lt
    have hsl := fun W => run_slTail (P := Try.prog) 31 5 Try.underlying31 u8_size (some ⟨b, o, none⟩) (n + 1) k 1 1 rfl (by omega) W
    rw [Nat.add_sub_cancel] at hsl
    have r2 := HR.out.tail 1 k (by simp) (by rw [hn1]; exact hk)
    rw [bv_drop, hn1, Nat.add_sub_cancel, List.drop_succ_cons, List.drop_zero] at r2
    have R2 := hide r2
    have Hn := hide hn
    rw [rB_cons]
    simp only
    obtain ⟨X, hX⟩ : ∃ X, c.toNat = X := ⟨_, rfl⟩
    rw [hX] at c2 hc8 ⊢
    clear hc r2 hX hn hn1
    go_enter Try.func44, Try.ntmps44
    go_wp2_with fail
    go_ret
    refine ⟨rfl, ⟨cutA (some ⟨b, o, none⟩) 1 k, k - 1, ?_, ?_, ?_, cutA_loc HLo.out 1 k⟩, But.setCell w _ rfl, fun _ _ _ hr => hr.u8set (HB.out.cell 0) (fun _ e => by cases e) _⟩
    · simp only [Hn.out]; exact HB.out.set 0 _
    · simp only [Hn.out]; omega
    · simp only [Hn.out]; exact R2.out.u8set (HB.out.cell 0) (fun _ e => by cases e) _

theorem rdWL_any (g : Nat) (s : Rdr) (w : World) (h : RdL L w g s) (hl : s.1.length ≤ 1099511627776) : Calls Try.prog 46 #[.pointer (some ⟨g, 0, none⟩)] w fun e w' =>
    e = .returned (.int .i64 ((rW s).1 : Int)) ∧ RdL L w' g (rW s).2 ∧ AftR g w w' := by
  have hb : ∀ s : Rdr, (rB s).1 < 256 := fun s => by
    obtain ⟨xs, b⟩ := s
    cases xs with
    | nil => simp [rB]
    | cons c t => exact c.toNat_lt
  have hle : ∀ s : Rdr, (rB s).2.1.length ≤ s.1.length := fun s => by
    obtain ⟨xs, b⟩ := s
    cases xs with
    | nil => simp [rB]
    | cons c t => simp [rB]
  have P1 := hide (rdBL_any g s w h hl)
  have P2 := fun W (hW : RdL L W g (rB s).2) => hide (rdBL_any g (rB s).2 W hW (Nat.le_trans (hle s) hl))
  have b1 := hb s
  have b2 := hb (rB s).2
  have E := hide (show ((rW s).1 : Int) = 256 * ((rB s).1 : Int) + ((rB (rB s).2).1 : Int) by unfold rW; simp)
  have E2 := hide (show (rW s).2 = (rB (rB s).2).2 from rfl)
  clear hb hle h
  generalize (rB s).1 = X at *
  generalize (rB (rB s).2).1 = Y at *
  go_enter Try.func46, Try.ntmps46
  go_wp2_with fail
  refine P1.out.mono ?_
  rintro e w1 ⟨rfl, h1, a1⟩
  have H1 := hide h1
  have A1 := hide a1
  clear h1 a1
  go_wp2_with fail
  refine (P2 w1 H1.out).out.mono ?_
  rintro e w2 ⟨rfl, h2, a2⟩
  have H2 := hide h2
  have A2 := hide a2
  clear h2 a2 P2
  go_wp2_with fail
  go_ret
  exact ⟨by rw [E.out]; rfl, by rw [E2.out]; exact H2.out, A1.out.trans A2.out⟩

theorem rdTL_any (g : Nat) (s : Rdr) (w : World) (h : RdL L w g s) (hl : s.1.length ≤ 1099511627776) : Calls Try.prog 45 #[.pointer (some ⟨g, 0, none⟩)] w fun e w' =>
    e = .returned (.string (str (rT s).1)) ∧ RdL L w' g (rT s).2 ∧ AftR g w w' := by
  have hw := rW_le s
  have P1 := hide (rdWL_any g s w h hl)
  have E : rT s = if (rW s).2.1.length < (rW s).1 then ([], ((rW s).2.1, true)) else ((rW s).2.1.take (rW s).1, ((rW s).2.1.drop (rW s).1, (rW s).2.2)) := rfl
  rw [E]
  clear E h
  generalize (rW s).1 = n at *
  generalize (rW s).2 = z at *
  obtain ⟨ys, bad⟩ := z
  simp only at hw ⊢
  obtain ⟨m, hm⟩ : ∃ m, ys.length = m := ⟨_, rfl⟩
  rw [hm] at hw ⊢
  have Hm := hide hm
  clear hm
  by_cases hmn : m < n
  · have q1 : (m : Int) < (n : Int) := by omega
    rw [if_pos hmn]
    go_enter Try.func45, Try.ntmps45
    go_wp2_with fail
    refine P1.out.mono ?_
    rintro e w1 ⟨rfl, ⟨A, k, hB, hk, hR, hLo⟩, a1⟩
    have HLo := hide hLo
    clear hLo
    simp only [Hm.out] at hB hk hR
    have c0 := hB.cell 0
    have c1 := hB.cell 1
    have f0 := hB.frozen
    simp only [List.getElem?_cons_zero, List.getElem?_cons_succ] at c0 c1
    have HB := hide hB
    have HR := hide hR
    have A1 := hide a1
    clear hB hR a1 P1
    go_wp2_with fail
    go_ret
    refine ⟨rfl, ⟨A, k, by simp only [Hm.out]; exact HB.out.set 1 (.bool true), by simp only [Hm.out]; exact hk, by simp only [Hm.out]; exact HR.out.u8set (HB.out.cell 1) (fun _ e => by cases e) _, HLo.out⟩, A1.out.trans ⟨But.setCell w1 _ rfl, fun _ _ _ hr => hr.u8set (HB.out.cell 1) (fun _ e => by cases e) _⟩⟩
  · have q1 : ¬ (m : Int) < (n : Int) := by omega
    rw [if_neg hmn]
    obtain ⟨tk, htk⟩ : ∃ tk, ys.take n = tk := ⟨_, rfl⟩
    obtain ⟨dr, hdr⟩ : ∃ dr, ys.drop n = dr := ⟨_, rfl⟩
    have Hd := hide (show dr.length = m - n by rw [← hdr, List.length_drop, Hm.out])
    have Htk := hide htk
    have Hdr := hide hdr
    simp only [htk, hdr]
    clear htk hdr
    go_enter Try.func45, Try.ntmps45
    go_wp2_with fail
    refine P1.out.mono ?_
    rintro e w1 ⟨rfl, ⟨A, k, hB, hk, hR, hLo⟩, a1⟩
    have HLo := hide hLo
    clear hLo
    simp only [Hm.out] at hB hk hR
    have c0 := hB.cell 0
    have c1 := hB.cell 1
    have f0 := hB.frozen
    simp only [List.getElem?_cons_zero, List.getElem?_cons_succ] at c0 c1
    have HB := hide hB
    have HR := hide hR
    have A1 := hide a1
    clear hB hR a1 P1
    have hs1 := fun W => run_slTo (P := Try.prog) 31 5 Try.underlying31 u8_size A m k (n : Int) n rfl (by omega) W
    have hs2 := fun W => run_slTail (P := Try.prog) 31 5 Try.underlying31 u8_size A m k (n : Int) n rfl (by omega) W
    have r1 := HR.out.upto n k (by omega) hk
    rw [Htk.out] at r1
    have hcs := rdStr r1 k
    have r2 := HR.out.tail n k (by omega) hk
    rw [bv_drop, Hdr.out] at r2
    have R2 := hide r2
    clear r1 r2
    go_wp2_with fail
    go_ret
    refine ⟨rfl, ⟨cutA A n k, k - n, ?_, ?_, ?_, cutA_loc HLo.out n k⟩, A1.out.trans ⟨But.setCell w1 _ rfl, fun _ _ _ hr => hr.u8set (HB.out.cell 0) (fun _ e => by cases e) _⟩⟩
    · simp only [Hd.out]; exact HB.out.set 0 _
    · simp only [Hd.out]; omega
    · simp only [Hd.out]; exact R2.out.u8set (HB.out.cell 0) (fun _ e => by cases e) _

end Go.Proofs.Ytdlhcecmodefkaa

namespace Go.Proofs.Ytdlhcecmodefkaa
set_option linter.unusedVariables false
set_option linter.unusedSimpArgs false
open Go.RowKit
variable {L : Nat}

theorem keepB_but {w w' : World} {g : Nat} {t : TypeId} {cs : List Value} (hB : Blk w g t cs) (h8 : ∀ v ∈ cs, ∀ x, v ≠ .int .u8 x) (b : But (fun i => i = g) w w') : KeepB w w' := by
  intro B l xs h
  refine ⟨h.1, fun hl => ?_⟩
  obtain ⟨p, o, e, hp, hc⟩ := h.2 hl
  by_cases hg : p = g
  · subst hg
    have hx : 0 < xs.length := by have := h.1; rw [bv_length] at this; omega
    have := hc 0 _ (bv_get xs 0 hx)
    rw [hB.cell] at this
    exact absurd rfl (h8 _ (List.mem_of_getElem? this) _)
  · exact ⟨p, o, e, Nat.lt_of_lt_of_le hp b.size, fun i v hv => (World.cell?_of_block (w := w) (b.block p hp hg)).trans (hc i v hv)⟩
theorem pkVs_no8 (p : Pk) (C : Option Addr) (nc kc : Nat) (S : Option Addr) (ns ks : Nat) : ∀ v ∈ pkVs p C nc kc S ns ks, ∀ x, v ≠ .int .u8 x := by
  intro v hv x e
  subst e
  simp [pkVs] at hv
theorem RdL.but {w w' : World} {g h : Nat} {s : Rdr} (r : RdL L w g s) (b : But (fun i => i = h) w w') (k : KeepB w w') (hne : g ≠ h) : RdL L w' g s := by
  obtain ⟨A, c, hB, hk, hR, hL⟩ := r
  exact ⟨A, c, hB.but b hne, hk, k _ _ _ hR, hL⟩
theorem RdL.keep {w w' : World} {g : Nat} {s : Rdr} (r : RdL L w g s) (b : Below w.heap.size w w') : RdL L w' g s := by
  obtain ⟨A, c, hB, hk, hR, hL⟩ := r
  exact ⟨A, c, hB.keep b, hk, hR.keep b, hL⟩

/-- A packet that is being read: its block, the reader, the block for the answer. -/
structure PsS (L : Nat) (w V : World) (gp gr gz : Nat) (p : Pk) (C : Option Addr) (nc kc : Nat) (S : Option Addr) (ns ks : Nat) (s : Rdr) : Prop where
  hp : Blk V gp 27 (pkVs p C nc kc S ns ks)
  hr : RdL L V gr s
  hz : Blk V gz 27 (pkVs (zeroP 0) none 0 0 none 0 0)
  aft : AftR gr w V
  ne : gp ≠ gr ∧ gp ≠ gz ∧ gz ≠ gr ∧ w.heap.size ≤ gp ∧ w.heap.size ≤ gz
section
variable {w V V' : World} {gp gr gz : Nat} {p : Pk} {C : Option Addr} {nc kc : Nat} {S : Option Addr} {ns ks : Nat} {s : Rdr}
theorem PsS.call (h : PsS L w V gp gr gz p C nc kc S ns ks s) {s' : Rdr} (r : RdL L V' gr s') (a : AftR gr V V') : PsS L w V' gp gr gz p C nc kc S ns ks s' :=
  ⟨h.hp.but a.1 h.ne.1, r, h.hz.but a.1 h.ne.2.2.1, h.aft.trans a, h.ne⟩
theorem PsS.mem (h : PsS L w V gp gr gz p C nc kc S ns ks s) (b : Below V.heap.size V V') : PsS L w V' gp gr gz p C nc kc S ns ks s :=
  ⟨h.hp.keep b, h.hr.keep b, h.hz.keep b, h.aft.trans ⟨But.ofBelow b _, KeepB.ofBelow b⟩, h.ne⟩
theorem PsS.put (h : PsS L w V gp gr gz p C nc kc S ns ks s) {p' : Pk} {C' : Option Addr} {nc' kc' : Nat} {S' : Option Addr} {ns' ks' : Nat} (hB : Blk V' gp 27 (pkVs p' C' nc' kc' S' ns' ks')) (b : But (fun i => i = gp) V V') : PsS L w V' gp gr gz p' C' nc' kc' S' ns' ks' s := by
  have k := keepB_but h.hp (pkVs_no8 _ _ _ _ _ _ _) b
  exact ⟨hB, h.hr.but b k (fun e => h.ne.1 e.symm), h.hz.but b (fun e => h.ne.2.1 e.symm), ⟨h.aft.1.trans b (fun i hi e => by have h1 := h.ne.2.2.2.1; have h2 : i = gp := e; omega), h.aft.2.trans k⟩, h.ne⟩
theorem PsS.ans (h : PsS L w V gp gr gz p C nc kc S ns ks s) (b : But (fun i => i = gz) V V') : RdL L V' gr s ∧ AftR gr w V' := by
  have k := keepB_but h.hz (pkVs_no8 _ _ _ _ _ _ _) b
  exact ⟨h.hr.but b k (fun e => h.ne.2.2.1 e.symm), ⟨h.aft.1.trans b (fun i hi e => by have h1 := h.ne.2.2.2.2; have h2 : i = gz := e; omega), h.aft.2.trans k⟩⟩
theorem PsS.set (h : PsS L w V gp gr gz p C nc kc S ns ks s) (i : Nat) (u : Value) (p' : Pk) (e : (pkVs p C nc kc S ns ks).set i u = pkVs p' C nc kc S ns ks) : PsS L w (V.setCell ⟨gp, i, none⟩ u) gp gr gz p' C nc kc S ns ks s :=
  h.put (by rw [← e]; exact h.hp.set i u) (But.setCell V u rfl)
end
/-- What connectRead leaves and returns. -/
def CrPost (gr : Nat) (s : Rdr) (w : World) (e : Ending) (w' : World) : Prop := e = .returned (pkA (conR s).1 none 0 0 none 0 0) ∧ RdL L w' gr (conR s).2 ∧ AftR gr w w'

theorem rB_lt (s : Rdr) : (rB s).1 ≤ 255 ∧ (rB s).2.1.length ≤ s.1.length := by
  obtain ⟨xs, b⟩ := s
  cases xs with
  | nil => exact ⟨Nat.zero_le _, Nat.zero_le _⟩
  | cons c t =>
    have := c.toNat_lt
    exact ⟨by rw [rB_cons]; show c.toNat ≤ 255; omega, by rw [rB_cons]; simp⟩

set_option maxRecDepth 100000 in
set_option maxHeartbeats 8000000 in
theorem conRead_any (gr : Nat) (s : Rdr) (w : World) (h : RdL L w gr s) (hl : s.1.length ≤ 1099511627776) : Calls Try.prog 42 #[.pointer (some ⟨gr, 0, none⟩), pkA (zeroP 1) none 0 0 none 0 0] w (CrPost (L := L) gr s w) := by
  have HR := hide h
  have hgr : gr < w.heap.size := by obtain ⟨A, k, hB, -⟩ := h; exact hB.lt
  have PT := hide (fun W s' (hR : RdL L W gr s') hl => rdTL_any gr s' W hR hl)
  have PB := hide (fun W s' (hR : RdL L W gr s') hl => rdBL_any gr s' W hR hl)
  have PW := hide (fun W s' (hR : RdL L W gr s') hl => rdWL_any gr s' W hR hl)
  clear h
  obtain ⟨RS, hRS⟩ : ∃ RS, conR s = RS := ⟨_, rfl⟩
  have HRS := hide hRS
  have hpost : CrPost (L := L) gr s w = fun e w' => e = .returned (pkA RS.1 none 0 0 none 0 0) ∧ RdL L w' gr RS.2 ∧ AftR gr w w' := by unfold CrPost; rw [hRS]
  rw [hpost]
  clear hpost hRS
  simp only [pkA]
  go_enter Try.func42, Try.ntmps42
  go_upto_region 1 with fail
  generalize hW : (w.alloc _).alloc _ = W
  obtain ⟨z1, z2, z3, z4⟩ := two_boxes w (pkVs (zeroP 1) none 0 0 none 0 0) (pkVs (zeroP 0) none 0 0 none 0 0) 27 27 W hW.symm
  obtain ⟨gp, hgp⟩ : ∃ gp, w.heap.size = gp := ⟨_, rfl⟩
  obtain ⟨gz, hgz⟩ : ∃ gz, w.heap.size + 1 = gz := ⟨_, rfl⟩
  have HS := hide (show PsS L w W gp gr gz (zeroP 1) none 0 0 none 0 0 s from ⟨by rw [← hgp]; exact z1, HR.out.keep z3, by rw [← hgz]; exact z2, ⟨But.ofBelow z3 _, KeepB.ofBelow z3⟩, by omega⟩)
  rw [hgz, hgp]
  clear hW z1 z2 z3 z4 hgp hgz HR
  obtain ⟨s1, hs1⟩ : ∃ s1, (rT s).2 = s1 := ⟨_, rfl⟩
  obtain ⟨s2, hs2⟩ : ∃ s2, (rB s1).2 = s2 := ⟨_, rfl⟩
  obtain ⟨s3, hs3⟩ : ∃ s3, (rB s2).2 = s3 := ⟨_, rfl⟩
  obtain ⟨f, hf⟩ : ∃ f, (rB s2).1 = f := ⟨_, rfl⟩
  obtain ⟨s4, hs4⟩ : ∃ s4, (rW s3).2 = s4 := ⟨_, rfl⟩
  obtain ⟨al, hal⟩ : ∃ al, (rW s3).1 = al := ⟨_, rfl⟩
  obtain ⟨s5, hs5⟩ : ∃ s5, (rT s4).2 = s5 := ⟨_, rfl⟩
  obtain ⟨cl, hcl⟩ : ∃ cl, (rT s4).1 = cl := ⟨_, rfl⟩
  obtain ⟨w1, hw1⟩ : ∃ w1, (if digB f 4 then rT s5 else ([], s5)) = w1 := ⟨_, rfl⟩
  obtain ⟨w2, hw2⟩ : ∃ w2, (if digB f 4 then rT w1.2 else ([], w1.2)) = w2 := ⟨_, rfl⟩
  obtain ⟨u, hu⟩ : ∃ u, (if digB f 128 then rT w2.2 else ([], w2.2)) = u := ⟨_, rfl⟩
  obtain ⟨q, hq⟩ : ∃ q, (if digB f 64 then rT u.2 else ([], u.2)) = q := ⟨_, rfl⟩
  have hl1 : s1.1.length ≤ 1099511627776 := by rw [← hs1]; exact Nat.le_trans (rT_le s).1 hl
  have hl2 : s2.1.length ≤ 1099511627776 := by rw [← hs2]; exact Nat.le_trans (rB_lt s1).2 hl1
  have hl3 : s3.1.length ≤ 1099511627776 := by rw [← hs3]; exact Nat.le_trans (rB_lt s2).2 hl2
  have hl4 : s4.1.length ≤ 1099511627776 := by rw [← hs4]; exact Nat.le_trans (rW_le s3).1 hl3
  have hl5 : s5.1.length ≤ 1099511627776 := by rw [← hs5]; exact Nat.le_trans (rT_le s4).1 hl4
  have hlw1 : w1.2.1.length ≤ 1099511627776 := by rw [← hw1]; split; exact Nat.le_trans (rT_le s5).1 hl5; exact hl5
  have hlw2 : w2.2.1.length ≤ 1099511627776 := by rw [← hw2]; split; exact Nat.le_trans (rT_le w1.2).1 hlw1; exact hlw1
  have hlu : u.2.1.length ≤ 1099511627776 := by rw [← hu]; split; exact Nat.le_trans (rT_le w2.2).1 hlw2; exact hlw2
  have hf8 : f ≤ 255 := by rw [← hf]; exact (rB_lt s2).1
  have hRS : RS = (⟨1, false, 0, w1.1, w2.1, if digB f 4 then ((f / 8 % 4 : Nat) : Int) else 0, if digB f 4 then digB f 32 else false, cl, digB f 2, (al : Int), digB f 4, digB f 128, digB f 64, u.1, q.1, false, [], []⟩, q.2) := by
    rw [← HRS.out]
    unfold conR
    simp only [hs1, hs2, hs3, hf, hs4, hal, hs5, hcl, hw1, hw2, hu, hq]
  have D2 := hide (fun W => digit_any f 2 (by omega) (by omega) hf8 W)
  have D4 := hide (fun W => digit_any f 4 (by omega) (by omega) hf8 W)
  have D32 := hide (fun W => digit_any f 32 (by omega) (by omega) hf8 W)
  have D64 := hide (fun W => digit_any f 64 (by omega) (by omega) hf8 W)
  have D128 := hide (fun W => digit_any f 128 (by omega) (by omega) hf8 W)
  generalize digB f 2 = b2 at *
  generalize digB f 4 = b4 at *
  generalize digB f 32 = b32 at *
  generalize digB f 64 = b64 at *
  generalize digB f 128 = b128 at *
  have Hs1 := hide hs1
  have Hs2 := hide hs2
  have Hs3 := hide hs3
  have Hf := hide hf
  have Hs4 := hide hs4
  have Hal := hide hal
  have Hs5 := hide hs5
  have Hcl := hide hcl
  have Hw1 := hide hw1
  have Hw2 := hide hw2
  have Hu := hide hu
  have Hq := hide hq
  have HRS := hide hRS
  clear hs1 hs2 hs3 hf hs4 hal hs5 hcl hw1 hw2 hu hq hRS hgr
  go_wp2_with fail
  refine (PT.out _ s HS.out.hr hl).mono ?_
  rintro e V1 ⟨rfl, r1, a1⟩
  rw [Hs1.out] at r1
  have HS := hide (HS.out.call r1 a1)
  clear r1 a1
  generalize (rT s).1 = tx at *
  go_wp2_with fail
  refine (PB.out _ s1 HS.out.hr hl1).mono ?_
  rintro e V2 ⟨rfl, r2, a2⟩
  rw [Hs2.out] at r2
  have HS := hide (HS.out.call r2 a2)
  clear r2 a2
  generalize (rB s1).1 = by1 at *
  go_wp2_with fail
  refine (PB.out _ s2 HS.out.hr hl2).mono ?_
  rintro e V ⟨rfl, r3, a3⟩
  rw [Hs3.out] at r3
  rw [Hf.out]
  have HS := hide (HS.out.call r3 a3)
  clear r3 a3
  have cc : V.cell? ⟨gp, 8, none⟩ = some (.bool false) := HS.out.hp.cell 8
  have ff := HS.out.hp.frozen
  go_upto_region 5 with (go_at_call 43; refine (D2.out _).mono ?_; rintro e Vx ⟨rfl, rfl⟩)
  have HS := hide (HS.out.set 8 (.bool b2) ⟨1, false, 0, [], [], 0, false, [], b2, 0, false, false, false, [], [], false, [], []⟩ rfl)
  generalize V.setCell ⟨gp, 8, none⟩ (.bool b2) = Va at *
  clear cc ff
  have cc : Va.cell? ⟨gp, 10, none⟩ = some (.bool false) := HS.out.hp.cell 10
  have ff := HS.out.hp.frozen
  go_upto_region 6 with (go_at_call 43; refine (D4.out _).mono ?_; rintro e Vx ⟨rfl, rfl⟩)
  have HS := hide (HS.out.set 10 (.bool b4) ⟨1, false, 0, [], [], 0, false, [], b2, 0, b4, false, false, [], [], false, [], []⟩ rfl)
  generalize Va.setCell ⟨gp, 10, none⟩ (.bool b4) = Vb at *
  clear cc ff
  have cc : Vb.cell? ⟨gp, 12, none⟩ = some (.bool false) := HS.out.hp.cell 12
  have ff := HS.out.hp.frozen
  go_upto_region 7 with (go_at_call 43; refine (D64.out _).mono ?_; rintro e Vx ⟨rfl, rfl⟩)
  have HS := hide (HS.out.set 12 (.bool b64) ⟨1, false, 0, [], [], 0, false, [], b2, 0, b4, false, b64, [], [], false, [], []⟩ rfl)
  generalize Vb.setCell ⟨gp, 12, none⟩ (.bool b64) = Vc at *
  clear cc ff
  have cc : Vc.cell? ⟨gp, 11, none⟩ = some (.bool false) := HS.out.hp.cell 11
  have ff := HS.out.hp.frozen
  go_upto_region 8 with (go_at_call 43; refine (D128.out _).mono ?_; rintro e Vx ⟨rfl, rfl⟩)
  have HS := hide (HS.out.set 11 (.bool b128) ⟨1, false, 0, [], [], 0, false, [], b2, 0, b4, b128, b64, [], [], false, [], []⟩ rfl)
  generalize Vc.setCell ⟨gp, 11, none⟩ (.bool b128) = Vd at *
  clear cc ff
  go_upto_region 9 with (go_at_call 46; refine (PW.out _ s3 HS.out.hr hl3).mono ?_; rintro e V8 ⟨rfl, r8, a8⟩; rw [Hs4.out] at r8; rw [Hal.out]; have HS := hide (HS.out.call r8 a8); have cc : V8.cell? ⟨gp, 9, none⟩ = some (.int .i64 0) := HS.out.hp.cell 9; have ff := HS.out.hp.frozen; clear r8 a8)
  have HS := hide (HS.out.set 9 (.int .i64 (al : Int)) ⟨1, false, 0, [], [], 0, false, [], b2, (al : Int), b4, b128, b64, [], [], false, [], []⟩ rfl)
  generalize V8.setCell ⟨gp, 9, none⟩ (.int .i64 (al : Int)) = V9 at *
  clear cc ff
  go_upto_region 10 with (go_at_call 45; refine (PT.out _ s4 HS.out.hr hl4).mono ?_; rintro e V10 ⟨rfl, r8, a8⟩; rw [Hs5.out] at r8; rw [Hcl.out]; have HS := hide (HS.out.call r8 a8); have cc : V10.cell? ⟨gp, 7, none⟩ = some (.string (str [])) := HS.out.hp.cell 7; have ff := HS.out.hp.frozen; clear r8 a8)
  have HS := hide (HS.out.set 7 (.string (str cl)) ⟨1, false, 0, [], [], 0, false, cl, b2, (al : Int), b4, b128, b64, [], [], false, [], []⟩ rfl)
  generalize V10.setCell ⟨gp, 7, none⟩ (.string (str cl)) = V11 at *
  clear cc ff
  have cc : V11.cell? ⟨gp, 10, none⟩ = some (.bool b4) := HS.out.hp.cell 10
  go_upto_if 31 with fail
  clear cc
  go_cut [5] (fun v Y => v = .int .i64 (f : Int) ∧ PsS L w Y gp gr gz ⟨1, false, 0, w1.1, w2.1, if b4 then ((f / 8 % 4 : Nat) : Int) else 0, if b4 then b32 else false, cl, b2, (al : Int), b4, b128, b64, [], [], false, [], []⟩ none 0 0 none 0 0 w2.2)
  case first =>
    cases b4 with
    | false =>
      have e1 : w1 = ([], s5) := by rw [← Hw1.out]; rfl
      have e2 : w2 = ([], s5) := by rw [← Hw2.out, e1]; rfl
      go_wp2_with fail
      go_meet
      rw [e1, e2]
      exact ⟨rfl, HS.out⟩
    | true =>
      have e1 : rT s5 = w1 := by rw [← Hw1.out]; rfl
      have e2 : rT w1.2 = w2 := by rw [← Hw2.out]; rfl
      have E1 := hide e1
      have E2 := hide e2
      obtain ⟨q8, hq8, hn8⟩ : ∃ q8 : Nat, (f : Int) / 8 = (q8 : Int) ∧ f / 8 = q8 := ⟨f / 8, by simp, rfl⟩
      obtain ⟨r4, hr4, hn4⟩ : ∃ r4 : Nat, (q8 : Int) % 4 = (r4 : Int) ∧ q8 % 4 = r4 := ⟨q8 % 4, by simp, rfl⟩
      have hq3 : q8 ≤ 255 := by omega
      have Hnn := hide (show f / 8 % 4 = r4 by rw [hn8, hn4])
      clear e1 e2 hn8 hn4
      go_upto_region 12 with (first
        | (go_at_call 43; refine (D32.out _).mono ?_; rintro e Vx ⟨rfl, rfl⟩)
        | (refine wpList_storeM rfl 23 (.tmp 38) (.tmp 37) rfl gp 27 ⟨1, false, 0, [], [], 0, false, cl, b2, (al : Int), true, b128, b64, [], [], false, [], []⟩ none 0 0 none 0 0 { zeroP 1 with qos := (r4 : Int), retain := b32 } rfl rfl HS.out.hp (by kernel_rfl) ?_; intro X5 bX BX))
      have HS := hide (HS.out.put bX BX)
      clear bX BX hq8 hr4 hq3
      go_upto_region 13 with (go_at_call 45; refine (PT.out _ s5 HS.out.hr hl5).mono ?_; rintro e V10 ⟨rfl, r8, a8⟩; rw [E1.out] at r8; rw [E1.out]; have HS := hide (HS.out.call r8 a8); have cc : V10.cell? ⟨gp, 3, none⟩ = some (.string (str [])) := HS.out.hp.cell 3; have ff := HS.out.hp.frozen; clear r8 a8)
      have HS := hide (HS.out.set 3 (.string (str w1.1)) ⟨1, false, 0, w1.1, [], (r4 : Int), b32, cl, b2, (al : Int), true, b128, b64, [], [], false, [], []⟩ rfl)
      generalize V10.setCell ⟨gp, 3, none⟩ (.string (str w1.1)) = V12 at *
      clear cc ff
      go_wp2_with (go_at_call 45; refine (PT.out _ w1.2 HS.out.hr hlw1).mono ?_; rintro e V13 ⟨rfl, r8, a8⟩; rw [E2.out] at r8; rw [E2.out]; have HS := hide (HS.out.call r8 a8); have cc : V13.cell? ⟨gp, 4, none⟩ = some (.string (str [])) := HS.out.hp.cell 4; have ff := HS.out.hp.frozen; clear r8 a8)
      go_meet
      have hfin := HS.out.set 4 (.string (str w2.1)) ⟨1, false, 0, w1.1, w2.1, (r4 : Int), b32, cl, b2, (al : Int), true, b128, b64, [], [], false, [], []⟩ rfl
      rw [← Hnn.out] at hfin
      exact ⟨rfl, hfin⟩
  case rest =>
    obtain ⟨rfl, hs⟩ := hcut
    have HS := hide hs
    clear hs
    obtain ⟨qo, hqo⟩ : ∃ qo : Int, (if b4 then ((f / 8 % 4 : Nat) : Int) else 0) = qo := ⟨_, rfl⟩
    obtain ⟨re, hre⟩ : ∃ re : Bool, (if b4 then b32 else false) = re := ⟨_, rfl⟩
    rw [hqo, hre] at HS HRS
    clear hqo hre
    have cc : wc.cell? ⟨gp, 11, none⟩ = some (.bool b128) := HS.out.hp.cell 11
    go_upto_if 48 with fail
    clear cc
    go_cut [5] (fun v Y => PsS L w Y gp gr gz ⟨1, false, 0, w1.1, w2.1, qo, re, cl, b2, (al : Int), b4, b128, b64, u.1, [], false, [], []⟩ none 0 0 none 0 0 u.2)
    case first =>
      cases b128 with
      | false =>
        have e1 : u = ([], w2.2) := by rw [← Hu.out]; rfl
        go_wp2_with fail
        go_meet
        rw [e1]
        exact HS.out
      | true =>
        have E1 := hide (show rT w2.2 = u by rw [← Hu.out]; rfl)
        go_wp2_with (go_at_call 45; refine (PT.out _ w2.2 HS.out.hr hlw2).mono ?_; rintro e V13 ⟨rfl, r8, a8⟩; rw [E1.out] at r8; rw [E1.out]; have HS := hide (HS.out.call r8 a8); have cc : V13.cell? ⟨gp, 13, none⟩ = some (.string (str [])) := HS.out.hp.cell 13; have ff := HS.out.hp.frozen; clear r8 a8)
        go_meet
        exact HS.out.set 13 (.string (str u.1)) ⟨1, false, 0, w1.1, w2.1, qo, re, cl, b2, (al : Int), b4, true, b64, u.1, [], false, [], []⟩ rfl
    case rest =>
      have HS := hide hcut
      clear hcut
      have cc : wc.cell? ⟨gp, 12, none⟩ = some (.bool b64) := HS.out.hp.cell 12
      cases b64 with
      | false =>
        have e1 : q = ([], u.2) := by rw [← Hq.out]; rfl
        go_upto_region 18 with fail
        clear cc
        go_upto_region 99 with (first
          | (refine wpList_loadP rfl 27 (.tmp 3) rfl gp 27 ⟨1, false, 0, w1.1, w2.1, qo, re, cl, b2, (al : Int), b4, b128, false, u.1, [], false, [], []⟩ none 0 0 none 0 0 rfl HS.out.hp Try.underlying27 rfl (by kernel_rfl) ?_)
          | (refine wpList_storeQ rfl 27 (.tmp 4) (.tmp 57) rfl gz 27 (zeroP 0) none 0 0 none 0 0 ⟨1, false, 0, w1.1, w2.1, qo, re, cl, b2, (al : Int), b4, b128, false, u.1, [], false, [], []⟩ none 0 0 none 0 0 rfl rfl HS.out.hz (by kernel_rfl) ?_; intro V2 bV2 BV2))
        refine bodyPost_ret (results_cell rfl rfl bV2 Try.underlying27 rfl (by kernel_rfl)) rfl ?_
        have hR := HRS.out
        have ha := HS.out.ans BV2
        rw [hR, e1]
        exact ⟨rfl, ha.1, ha.2⟩
      | true =>
        have E1 := hide (show rT u.2 = q by rw [← Hq.out]; rfl)
        go_upto_region 18 with (go_at_call 45; refine (PT.out _ u.2 HS.out.hr hlu).mono ?_; rintro e V13 ⟨rfl, r8, a8⟩; rw [E1.out] at r8; rw [E1.out]; have HS := hide (HS.out.call r8 a8); have cc : V13.cell? ⟨gp, 14, none⟩ = some (.string (str [])) := HS.out.hp.cell 14; have ff := HS.out.hp.frozen; clear r8 a8)
        have HS := hide (HS.out.set 14 (.string (str q.1)) ⟨1, false, 0, w1.1, w2.1, qo, re, cl, b2, (al : Int), b4, b128, true, u.1, q.1, false, [], []⟩ rfl)
        generalize V13.setCell ⟨gp, 14, none⟩ (.string (str q.1)) = V14 at *
        clear cc ff
        go_upto_region 99 with (first
          | (refine wpList_loadP rfl 27 (.tmp 3) rfl gp 27 ⟨1, false, 0, w1.1, w2.1, qo, re, cl, b2, (al : Int), b4, b128, true, u.1, q.1, false, [], []⟩ none 0 0 none 0 0 rfl HS.out.hp Try.underlying27 rfl (by kernel_rfl) ?_)
          | (refine wpList_storeQ rfl 27 (.tmp 4) (.tmp 57) rfl gz 27 (zeroP 0) none 0 0 none 0 0 ⟨1, false, 0, w1.1, w2.1, qo, re, cl, b2, (al : Int), b4, b128, true, u.1, q.1, false, [], []⟩ none 0 0 none 0 0 rfl rfl HS.out.hz (by kernel_rfl) ?_; intro V2 bV2 BV2))
        refine bodyPost_ret (results_cell rfl rfl bV2 Try.underlying27 rfl (by kernel_rfl)) rfl ?_
        have hR := HRS.out
        have ha := HS.out.ans BV2
        rw [hR]
        exact ⟨rfl, ha.1, ha.2⟩

end Go.Proofs.Ytdlhcecmodefkaa
