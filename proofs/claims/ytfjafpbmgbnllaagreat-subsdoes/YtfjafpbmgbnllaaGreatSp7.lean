/-
  What is proved here: what the index's Find returns. Conditions: texts of at most 65535 bytes; at most a million calls.
-/
import Derived.Test.YtfjafpbmgbnllaaGreatSp6
namespace Go.Proofs.YtfjafpbmgbnllaaGreat
set_option linter.unusedVariables false
set_option linter.unusedSimpArgs false
open Go.RowKit Go.Maps

/-- What Find answers. -/
def RetPF (es : List SE) (n : List UInt8) (w : World) (e : Ending) (w' : World) : Prop :=
  if nameL n = true then ∃ O ko, e = .returned (.tuple #[.slice O (findE es n).length ko, .int .i64 0]) ∧ Rd w' O ((findE es n).length * 2) (twVs (findE es n)) ∧ Below w.heap.size w w' ∧ NewAt w O
  else e = .returned (.tuple #[.slice none 0 0, .int .i64 120]) ∧ Below w.heap.size w w'
theorem map_keyInv (v : Value) (y : DU × List MemPlace) (h : RM v = some y) : ∃ g : Option Nat, v = .map g := by
  unfold RM at h
  split at h
  · exact ⟨_, rfl⟩
  · exact ⟨_, rfl⟩
  · cases h
theorem ranges_own {H : Type} {P : Program} {k : TypeId} {R : Value → Option (DataW H × List MemPlace)} {w w' : World} {b r n cnt base : Nat} {D : DataW H} {left : Lit → Bool} {e : TypeId} {s m c : Nat} {O : Option Addr} {xs : List Value} (h : w.ranges P k R b r n D left cnt) (ho : w.ownsRow base e s (.slice O m c) m xs)
    (hb : b < base) (bt : But (fun i => ∃ o, O = some ⟨i, o, none⟩) w w') : w'.ranges P k R b r n D left cnt := by
  have hr := row_ne_iter ho h
  rcases ho.2 with ⟨hv, _⟩ | ⟨g, cap, cur, hv, hg, _⟩
  · injection hv with hA _ _
    subst hA
    have hgr : w.grownBy w' none := ⟨bt.os, bt.tape, bt.output, bt.size, fun i hi _ => bt.block i hi (fun ⟨o, e⟩ => by cases e)⟩
    exact h.kept hgr (by simp) (by simp)
  · injection hv with hA _ _
    subst hA
    have hgr : w.grownBy w' (some g) := ⟨bt.os, bt.tape, bt.output, bt.size, fun i hi hne => bt.block i hi (fun ⟨o, e⟩ => hne (by injection e with e; injection e with e1 _ _; rw [e1]))⟩
    exact h.kept hgr (by intro e; injection e with e; omega) hr
set_option maxHeartbeats 4000000 in
set_option maxRecDepth 100000 in
theorem pFind_any (m : Px) (n : List UInt8) (w : World) (h : PxA w m) (hn : n.length ≤ 65535) (hK : m.K ≤ 1000000) :
    Calls Tryz.prog 12 #[.pointer (some ⟨m.B, 0, none⟩), .string (str n)] w (RetPF (ses m.L) n w) := by
  have H := hide h
  have hBl := h.blk.lt
  have PF := name_any n (by omega) w
  clear h
  go_enter Tryz.func12, Tryz.ntmps12
  go_wp2_with fail
  refine PF.mono ?_
  rintro e V ⟨rfl, bV⟩
  have HB := hide bV
  have HV := hide (H.out.keep bV)
  clear PF bV
  cases hnm : nameL n with
  | false =>
    have Hn := hide hnm
    clear hnm
    have en : errN false 120 = 120 := rfl
    rw [en]
    go_wp2_with fail
    go_ret2
    unfold RetPF
    rw [if_neg (by rw [Hn.out]; simp)]
    exact ⟨rfl, HB.out⟩
  | true =>
  have Hn := hide hnm
  clear hnm
  have en : errN true 120 = 0 := rfl
  rw [en]
  have k1 : V.cell? ⟨m.B, 1, none⟩ = some (.map (some m.gf)) := HV.out.blk.cell 1
  obtain ⟨DF, hF, hFI⟩ := HV.out.fm
  have HF := hide hF
  have HFI := hide hFI
  have hsz := hF.size_le
  have hwV := HB.out.size
  clear hF hFI
  go_wp2_with (at_range; refine wpList_range_own _ rfl _ 54 rfl 9 66 st_keyed Tryz.underlying54 RM m.gf m.K DF rfl HF.out ?_; intro w0 hrg0 hg0 hs0)
  go_frame
  clear k1
  go_loopw [7] (fun fv wr => ∃ left cnt ss O mm ko, fv = .slice O mm ko ∧ mm = (whoL (ses m.L) n ss).length ∧ ss.length + cnt ≤ m.K ∧ wr.ownsRow w.heap.size 69 2 (.slice O mm ko) mm (twVs (whoL (ses m.L) n ss)) ∧ wr.ranges Tryz.prog 9 RM m.gf V.heap.size m.K DF left cnt ∧ Collected DF left ss ∧ Below w.heap.size w wr) (fun _ wr => wr.rangeLeft m.gf V.heap.size)
  case atStart =>
    exact ⟨_, _, [], none, 0, 0, rfl, rfl, by simpa using hsz, World.ownsRow_nil _ _ _ _, hrg0, Collected.start DF, below_on HB.out ⟨hg0.os, hg0.tape, hg0.output, hg0.size, fun i hi => hg0.block i hi (by simp)⟩⟩
  case round =>
    obtain ⟨left, cnt, ss, O, mm, ko, rfl, hmm, hcnt, hown, hrg, hC, hbel⟩ := hrel
    have HRg := hide hrg
    have HC := hide hC
    have HBel := hide hbel
    have HMm := hide hmm
    have HOwn := hide hown
    have hml : mm ≤ ss.length := by rw [hmm]; exact whoL_len _ _ _
    clear hrg hC hbel hrg0 hg0 hs0 hmm hown
    go_wp2_with (at_next; refine wpList_next_ranges _ rfl _ rfl 9 st_keyed RM (fun x : List UInt8 => .string (str x)) (fun g : Option Nat => .map g) str_keyInv map_keyInv m.gf V.heap.size m.K DF left cnt rfl HRg.out ?_ ?_)
    · intro hc0 hl0
      have hsort := sortW_any w.heap.size O mm ko (whoL (ses m.L) n ss) wr HOwn.out HMm.out.symm (by omega) HBel.out.size
      have hmem : Hid (∀ x, x ∈ ss ↔ (m.G x).isSome = true) := hide fun x => by
        rw [HC.out.2 x, hl0, ← HFI.out.has x]
        simp
      clear hc0 hl0
      go_wp2_with (refine hsort.mono ?_; rintro e w5 ⟨rfl, hr5⟩)
      go_ret2
      obtain ⟨l', hp, hs, hrd, hb5⟩ := hr5
      have hfe := who_find (ses m.L) n ss HC.out.1 (fun e he => by
        obtain ⟨p, hp, rfl⟩ := List.mem_map.1 he
        obtain ⟨g, hg⟩ := H.out.al p hp
        exact (hmem.out p.c).2 (by rw [hg]; rfl)) hp hs
      have hlen : mm = (findE (ses m.L) n).length := by rw [← hfe, hp.length_eq, HMm.out]
      subst hfe
      unfold RetPF
      rw [if_pos Hn.out, ← hlen]
      exact ⟨O, ko, rfl, hrd, HBel.out.trans hb5, fun b o e => ownS_new HOwn.out b o e⟩
    · intro x gv kl y yp w2 cnt2 hkey hlk hv hat hrg2 hlt hg2 hs2 hen
      obtain ⟨x', ex, rfl, _⟩ := Maps.keyOf_str Tryz.underlying9 hkey
      obtain rfl : x = x' := encStr_inj ex
      have hsome : (m.G x).isSome = true := by
        rw [← HFI.out.has x]
        exact has_true_of_atKey hat
      obtain ⟨g, hg⟩ := Option.isSome_iff_exists.1 hsome
      have hx : x.length ≤ 65535 := by
        obtain ⟨_, _, _, e, he, hec⟩ := H.out.im x g hg
        rw [← hec]
        exact (H.out.ok.ok e he).2.2.1
      have hb2 := below_iter HBel.out hg2 hwV
      have PG := pGreatest_any m x n g w2 (H.out.keep hb2) hg hx hn Hn.out hK
      have ho2 := HOwn.out.kept hg2 (Or.inr fun e => row_ne_iter HOwn.out HRg.out e.symm)
      have HO2 := hide ho2
      have HR2 := hide hrg2
      have HL := hide hlt
      have HB2 := hide hb2
      have HC2 := hide (HC.out.step hlk hat)
      have hws := hide (whoL_snoc (ses m.L) n ss x)
      have hcnt2 : ss.length + 1 + cnt2 ≤ m.K := by omega
      obtain ⟨Bq, hBq⟩ : ∃ Bq, bestQ (ses m.L) n x = Bq := ⟨_, rfl⟩
      rw [hBq] at PG
      have HBq := hide hBq
      have hge : ∀ p, Bq = some p → 0 ≤ p := fun p hp => bestQ_ge H.out.ok (by rw [hBq]; exact hp)
      clear hkey hlk hv hat hrg2 hlt hg2 hs2 hb2 ex ho2 hBq hsome hg hx
      cases Bq with
      | none =>
        have eq1 : ((none : Option Int).getD (-1)) = -1 := rfl
        rw [eq1] at PG
        go_wp2_with (refine PG.mono ?_; rintro e w3 ⟨rfl, b3⟩)
        have hr3 := HR2.out.kept (below_grown b3) (by simp) (by simp)
        go_roundw
        case rel =>
          refine ⟨_, cnt2, ss ++ [x], O, mm, ko, rfl, ?_, by rw [List.length_append]; simpa using hcnt2, ?_, hr3, HC2.out, below_on HB2.out b3⟩
          · rw [hws.out, HBq.out, List.append_nil]; exact HMm.out
          · rw [hws.out, HBq.out, List.append_nil]; exact ownS_keep HO2.out b3
        case measure =>
          rw [hr3.left_eq, HRg.out.left_eq]
          exact HL.out
      | some p =>
        have eq1 : ((some p : Option Int).getD (-1)) = p := rfl
        rw [eq1] at PG
        have hp0 := hge p rfl
        have q1 : (p != -1) = true := by rw [bne_iff_ne]; omega
        clear hge
        go_wp2_with (first
          | (refine PG.mono ?_; rintro e w3 ⟨rfl, b3⟩)
          | (refine wpList_bsS rfl 41 69 (.tmp 35) rfl Tryz.underlying41 2 (by omega) (by omega) (by kernel_rfl) (arr (twOne (x, p))) rfl rfl ?_)
          | (at_builtin; refine wpList_appS rfl (.tmp 32) (.tmp 36) 41 rfl 69 _ 2 24 Tryz.underlying41 want_info13 rfl (by omega) w.heap.size O mm ko (twVs (whoL (ses m.L) n ss)) rfl (ownS_keep (ownS_keep HO2.out b3) ((Below.refl _ _).alloc (Nat.le_refl _) _)) _ 1 1 (twOne (x, p)) rfl (Blk.new w3 69 (twOne (x, p))).rd (by simpa [twVs] using twVs_one [(x, p)]) (by unfold maxLen; omega) (by omega) (by have := HB2.out.size; have := b3.size; simp; omega) ?_; intro A4 k4 w4 o4 b4 h4))
        have hgf : m.gf < w.heap.size := H.out.lt (Or.inr (Or.inr (Or.inl rfl)))
        have bA : Below w3.heap.size w3 (w3.alloc (.cells (arr (twOne (x, p))) 69)) := (Below.refl _ _).alloc (Nat.le_refl _) _
        have hr3 := (HR2.out.kept (below_grown b3) (by simp) (by simp)).kept (below_grown bA) (by simp) (by simp)
        have ho3 := ownS_keep (ownS_keep HO2.out b3) bA
        have hr4 := ranges_own hr3 ho3 hgf b4
        have hb4 : Below w.heap.size w w4 := But.below (below_on (below_on HB2.out b3) bA) b4 (fun i ⟨o, e⟩ => ownS_new HOwn.out i o e) (by have := HB2.out.size; have := b3.size; have := bA.size; omega)
        refine ⟨⟨_, cnt2, ss ++ [x], A4, mm + 1, k4, rfl, ?_, by rw [List.length_append]; simpa using hcnt2, ?_, hr4, HC2.out, hb4⟩, ?_⟩
        · rw [hws.out, HBq.out, List.length_append, ← HMm.out]; rfl
        · rw [hws.out, HBq.out, twVs_app]; simpa [twVs] using o4
        · rw [hr4.left_eq, HRg.out.left_eq]
          exact HL.out
end Go.Proofs.YtfjafpbmgbnllaaGreat
