/-
  What is proved here: what the program's reader of packets returns for all bytes, or that it gives up. Condition: at most 65535 bytes.
-/
import Derived.Test.YtjaaeiemgojnbaaPr8
namespace Go.Proofs.Ytjaaeiemgojnbaa
set_option linter.unusedVariables false
set_option linter.unusedSimpArgs false
open Go.RowKit

/-- What the reading of a whole packet comes to. -/
def KPost (v : Bs) (o : Option Pk) (e : Ending) (w' : World) : Prop := match o with
  | none => e = .panicked gvP ∧ But v.S v.v w'
  | some p => ∃ C nc kc S ns ks, e = .returned (pkA p C nc kc S ns ks) ∧ NewAt v.v C ∧ NewAt v.v S ∧ PkM w' p C nc kc S ns ks ∧ But v.S v.v w'

theorem fieldsQ_qos {t low : Nat} {ys : List UInt8} {z : Pk × List UInt8} (h : fieldsQ t low ys = some z) : z.1.ty = 3 → 0 ≤ z.1.qos ∧ z.1.qos ≤ 3 := by
  unfold fieldsQ at h
  split at h
  · rename_i h1
    intro h3
    have := (conQ_some h).2
    omega
  split at h
  · intro h3
    unfold welQ at h
    obtain ⟨a, ha, h⟩ := Option.bind_eq_some_iff.1 h
    split at h
    · obtain ⟨c, hc, h⟩ := Option.bind_eq_some_iff.1 h
      injection h with h
      subst h
      have e : (2 : Int) = 3 := h3
      omega
    · cases h
  split at h
  · intro _
    unfold pubQ at h
    obtain ⟨a, ha, h⟩ := Option.bind_eq_some_iff.1 h
    obtain ⟨c, hc, h⟩ := Option.bind_eq_some_iff.1 h
    injection h with h
    subst h
    show (0 : Int) ≤ ((low / 2 % 4 : Nat) : Int) ∧ ((low / 2 % 4 : Nat) : Int) ≤ 3
    omega
  split at h
  · rename_i h4
    intro h3
    unfold ackQ at h
    obtain ⟨c, hc, h⟩ := Option.bind_eq_some_iff.1 h
    injection h with h
    subst h
    have e : (t : Int) = 3 := h3
    omega
  have nam : ∀ (t : Nat) (q : Bool), ¬ t = 3 → namQ t q ys = some z → z.1.ty = 3 → 0 ≤ z.1.qos ∧ z.1.qos ≤ 3 := by
    intro t q ht h h3
    unfold namQ at h
    obtain ⟨i, hi, h⟩ := Option.bind_eq_some_iff.1 h
    obtain ⟨l, hl, h⟩ := Option.bind_eq_some_iff.1 h
    injection h with h
    subst h
    have e : (t : Int) = 3 := h3
    omega
  split at h
  · exact nam 8 true (by decide) h
  split at h
  · intro h3
    unfold codQ at h
    obtain ⟨c, hc, h⟩ := Option.bind_eq_some_iff.1 h
    injection h with h
    subst h
    have e : (9 : Int) = 3 := h3
    omega
  split at h
  · exact nam 10 false (by decide) h
  · rename_i n3 _ _ _ _
    intro h3
    injection h with h
    subst h
    have e : (t : Int) = 3 := h3
    omega

theorem RrS.up {v v2 : Bs} {w : World} {xs : List UInt8} {A : Option Addr} {n k g : Nat} {ys : List UInt8} (h : RrS v2 xs A n k g ys w) (b : But v.S v.v v2.v) (hs : ∀ i, v2.S i → v.S i) : RrS v xs A n k g ys w := by
  obtain ⟨i, hB, hi, hd, hg, hv⟩ := h
  exact ⟨i, hB, hi, hd, hs g hg, b.trans hv (fun j _ e => hs j e)⟩
theorem RrS.S {v : Bs} {w : World} {xs : List UInt8} {A : Option Addr} {n k g : Nat} {ys : List UInt8} (h : RrS v xs A n k g ys w) : v.S g := by
  obtain ⟨i, hB, hi, hd, hg, hv⟩ := h
  exact hg

set_option maxRecDepth 100000 in
set_option maxHeartbeats 4000000 in
theorem rrPacket_any (v : Bs) (xs : List UInt8) (A : Option Addr) (n k g : Nat) (w : World) (hb : RrB v xs A n k) (h : RrS v xs A n k g xs w) : Calls Try.prog 68 #[.pointer (some ⟨g, 0, none⟩)] w (KPost v (readQ xs)) := by
  obtain ⟨O, hO⟩ : ∃ O, readQ xs = O := ⟨_, rfl⟩
  rw [hO]
  unfold readQ at hO
  have HO := hide hO
  have HS := hide h
  have hwz := h.low.size
  clear h hO
  go_enter Try.func68, Try.ntmps68
  go_wp2_with fail
  obtain ⟨g1, hg1⟩ : ∃ g1, w.heap.size = g1 := ⟨_, rfl⟩
  generalize hW : w.alloc _ = V1
  have hz : w.alloc (.cells (arr (pkVs (zeroP 0) none 0 0 none 0 0)) 27) = V1 := hW
  have HZ := hide (show Blk V1 g1 27 (pkVs (zeroP 0) none 0 0 none 0 0) from by rw [← hz, ← hg1]; exact Blk.new w _ _)
  have HS := hide (HS.out.keep (show Below w.heap.size w V1 from by rw [← hz]; exact (Below.refl _ _).alloc (Nat.le_refl _) _))
  rw [hg1]
  have hgg : ¬ g1 = g := by
    intro e
    obtain ⟨i, hB, -⟩ := HS.out
    have h2 := HZ.out
    rw [e] at h2
    have := hB.symm.trans h2
    simp [arr, pkVs] at this
  have HG1 := hide (show v.v.heap.size ≤ g1 from by rw [← hg1]; exact hwz)
  clear hW hz hg1
  have P1 := rrOctet_any v xs A n k g xs V1 hb HS.out
  cases hq1 : qB xs with
  | none =>
    have h0 : O = none := by rw [← HO.out, hq1]; rfl
    refine (RrPost.no P1 hq1).mono ?_
    rintro e w1 ⟨rfl, hv1⟩
    go_wp2_with fail
    all_goals first | exact ⟨rfl, rfl, hv1⟩ | exact ⟨rfl, by rw [h0]; exact ⟨rfl, hv1⟩⟩
  | some z =>
  obtain ⟨first, y1⟩ := z
  have hf := (qB_some hq1).2
  have hxs := (qB_some hq1).1
  simp only at hf hxs
  have hy1 : y1 = xs.drop 1 := by rw [hxs]; rfl
  have hn1 : 1 ≤ n := by have := hb.1; rw [hxs] at this; simp at this; omega
  rw [hq1] at HO
  simp only [Option.bind_some] at HO
  refine (RrPost.ok P1 hq1).mono ?_
  rintro e w1 ⟨rfl, s1, b1⟩
  subst hy1
  have HZ := hide (HZ.out.but b1 (by simpa using hgg))
  have HS := hide s1
  clear s1 b1 P1 hq1 hxs
  go_wp2_with fail
  have P1 := rrLen_any v xs A n k g w1 hb hn1 HS.out
  by_cases hat : (atR xs 1).2.2 = 0
  case neg =>
    have h0 : O = none := by rw [← HO.out, if_pos hat]
    have hq : lenQ xs = none := by unfold lenQ; rw [if_neg hat]
    refine (RrPost.no P1 hq).mono ?_
    rintro e w1 ⟨rfl, hv1⟩
    go_wp2_with fail
    all_goals first | exact ⟨rfl, rfl, hv1⟩ | exact ⟨rfl, by rw [h0]; exact ⟨rfl, hv1⟩⟩
  case pos =>
  have hq : lenQ xs = some ((atR xs 1).1, xs.drop (atR xs 1).2.1) := by unfold lenQ; rw [if_pos hat]
  rw [if_neg (by omega)] at HO
  have P1 := RrPost.ok P1 hq
  generalize (atR xs 1).1 = X at *
  generalize xs.drop (atR xs 1).2.1 = zs at *
  clear hat hq
  refine P1.mono ?_
  rintro e w2 ⟨rfl, s1, b1⟩
  have HZ := hide (HZ.out.but b1 (by simpa using hgg))
  have HS := hide s1
  clear s1 b1 P1
  go_wp2_with fail
  refine (rrLeft_any v xs A n k g zs w2 hb HS.out).mono ?_
  rintro e w3 ⟨rfl, s1, b1⟩
  have HZ := hide (HZ.out.but b1 (by simpa using hgg))
  have HS := hide s1
  clear s1 b1
  by_cases hx : X = zs.length
  case neg =>
    have h0 : O = none := by rw [← HO.out, if_pos hx]
    have q1 : ((X : Int) == (zs.length : Int)) = false := by simp; omega
    have hv1 := HS.out.low
    go_wp2_with fail
    refine (must_no _ _).mono ?_
    rintro e w2 ⟨rfl, rfl⟩
    go_wp2_with fail
    all_goals first | exact ⟨rfl, rfl, hv1⟩ | exact ⟨rfl, by rw [h0]; exact ⟨rfl, hv1⟩⟩
  case pos =>
  rw [if_neg (by omega)] at HO
  have q1 : ((X : Int) == (zs.length : Int)) = true := by simp; omega
  go_wp2_with fail
  refine (must_ok _ _).mono ?_
  rintro e w4 ⟨rfl, rfl⟩
  clear hx q1
  obtain ⟨t, ht⟩ : ∃ t, first / 16 = t := ⟨_, rfl⟩
  obtain ⟨low, hlow⟩ : ∃ low, first % 16 = low := ⟨_, rfl⟩
  have e1 : (first : Int) / 16 = (t : Int) := by omega
  have e2 : (first : Int) % 16 = (low : Int) := by omega
  have hl16 : low < 16 := by omega
  rw [ht, hlow] at HO
  clear ht hlow
  go_upto_region 5 with (refine wpList_storeP rfl 27 (.tmp 5) (.tmp 19) rfl w3.heap.size 27 (zeroP 0) none 0 0 none 0 0 (zeroP t) none 0 0 none 0 0 rfl rfl (Blk.new w3 27 (pkVs (zeroP 0) none 0 0 none 0 0)) (by kernel_rfl) ?_; intro V3 bV BV)
  have bw : Below w3.heap.size w3 V3 := BV w3.heap.size w3 (Nat.le_refl _) ((Below.refl _ _).alloc (Nat.le_refl _) _)
  obtain ⟨gp, hgp⟩ : ∃ gp, w3.heap.size = gp := ⟨_, rfl⟩
  have hgl : g < gp := by rw [← hgp]; exact HS.out.lt
  have hg1l : g1 < gp := by rw [← hgp]; exact HZ.out.lt
  have hvp : v.S gp := v.new gp (by rw [← hgp]; exact HS.out.low.size)
  have HZ := hide (HZ.out.keep bw)
  have HS := hide (HS.out.keep bw)
  rw [hgp] at bV ⊢
  have HP := hide (show PkZ V3 gp (zeroP t) from bV)
  have hVl : gp < V3.heap.size := HP.out.lt
  clear bw BV bV hgp
  have hvg := HS.out.S
  obtain ⟨v2, hv2⟩ : ∃ v2 : Bs, v2 = ⟨V3, fun i => i = g ∨ i = gp ∨ V3.heap.size ≤ i, fun i h => .inr (.inr h)⟩ := ⟨_, rfl⟩
  have hs2 : ∀ i, v2.S i → v.S i := by
    subst hv2
    intro i hi
    rcases hi with rfl | rfl | hi
    · exact hvg
    · exact hvp
    · exact v.new i (Nat.le_trans HS.out.low.size hi)
  have hsg : v2.S g := by subst hv2; exact .inl rfl
  have hsp : v2.S gp := by subst hv2; exact .inr (.inl rfl)
  have hs1 : ¬ v2.S g1 := by
    subst hv2
    rintro (h | h | h)
    · exact hgg h
    · omega
    · have h' : V3.heap.size ≤ g1 := h
      omega
  have hb2 : RrB v2 xs A n k := ⟨hb.1, hb.2.1, hb.2.2.1, by subst hv2; exact hb.rd HS.out.low, fun h0 => (hb.2.2.2.2 h0).mono hs2⟩
  have hS2 : RrS v2 xs A n k g zs V3 := by
    obtain ⟨i, hB, hi, hd, -, -⟩ := HS.out
    exact ⟨i, hB, hi, hd, hsg, by subst hv2; exact But.refl _ _⟩
  have hvv : But v.S v.v v2.v := by subst hv2; exact HS.out.low
  have hz2 : gp < v2.v.heap.size := by subst hv2; exact hVl
  have hz1 : g1 < v2.v.heap.size := by subst hv2; exact HZ.out.lt
  have hZ2 : Blk v2.v g1 27 (pkVs (zeroP 0) none 0 0 none 0 0) := by subst hv2; exact HZ.out
  have PF := hide (rrFields_any t low v2 xs A n k g gp zs V3 hl16 hb2 hS2 HP.out (by omega) hsp)
  have HV := hide hvv
  have HS2 := hide hs2
  have HZ := hide hZ2
  have Hb2 := hide hb2
  have Hs1 := hide hs1
  clear hv2 hvv hs2 hZ2 hb2 hS2 hs1
  go_wp2_with fail
  refine PF.out.mono ?_
  cases hF : fieldsQ t low zs with
  | none =>
    have h0 : O = none := by rw [← HO.out, hF]; rfl
    rintro e w5 ⟨rfl, hv5⟩
    have hv1 : But v.S v.v w5 := HV.out.trans hv5 (fun i _ e => HS2.out i e)
    clear hv5
    go_wp2_with fail
    all_goals first | exact ⟨rfl, rfl, hv1⟩ | exact ⟨rfl, by rw [h0]; exact ⟨rfl, hv1⟩⟩
  | some z =>
  obtain ⟨p, rest⟩ := z
  have hqos := fieldsQ_qos hF
  rw [hF] at HO
  simp only [Option.bind_some] at HO
  rintro e w5 ⟨rfl, s5, C, nc, kc, S, ns, ks, hP5, hC5, hS5, hM5⟩
  have hC : ∀ i, i ≤ gp → Off (fun j => j = i) C := fun i hi b o e h => by have := hC5 b o e; have h' : b = i := h; omega
  have hS : ∀ i, i ≤ gp → Off (fun j => j = i) S := fun i hi b o e h => by have := hS5 b o e; have h' : b = i := h; omega
  have HZ := hide (HZ.out.but s5.low Hs1.out)
  have HS := hide (s5.up HV.out HS2.out)
  have HP := hide hP5
  have HM := hide hM5
  have HC := hide (hC g1 (by omega))
  have HSS := hide (hS g1 (by omega))
  have HN := hide (And.intro (hC5.old HV.out.size) (hS5.old HV.out.size))
  clear PF hF s5 hP5 hM5 hC5 hS5 hC hS
  go_wp2_with fail
  refine (rrLeft_q v xs A n k g rest w5 hb HS.out).mono ?_
  rintro e w6 ⟨rfl, nq, hw6⟩
  have HZ := hide (show Blk w6 g1 27 (pkVs (zeroP 0) none 0 0 none 0 0) from by rw [hw6]; exact HZ.out.drewN nq)
  have HP := hide (show Blk w6 gp 27 (pkVs p C nc kc S ns ks) from by rw [hw6]; exact HP.out.drewN nq)
  have HM := hide (show PkM w6 p C nc kc S ns ks from by rw [hw6]; exact HM.out)
  have hv1 : But v.S v.v w6 := by rw [hw6]; exact HS.out.low.drewN nq
  clear hw6
  obtain ⟨m, hm⟩ : ∃ m, rest.length = m := ⟨_, rfl⟩
  rw [hm]
  by_cases hm0 : m = 0
  case neg =>
    have h0 : O = none := by rw [← HO.out]; unfold endQ; rw [if_neg (fun h => by have := h.1; simp only at this; rw [this] at hm; exact hm0 hm.symm)]
    have q1 : ((m : Int) == 0) = false := by simp; omega
    go_wp2_with fail
    refine (must_no _ _).mono ?_
    rintro e w2 ⟨rfl, rfl⟩
    go_wp2_with fail
    all_goals first | exact ⟨rfl, rfl, hv1⟩ | exact ⟨rfl, by rw [h0]; exact ⟨rfl, hv1⟩⟩
  case pos =>
  subst hm0
  have hr : rest = [] := List.length_eq_zero_iff.1 hm
  subst hr
  have PG := hide (flags_p p C nc kc S ns ks w6 (fun h => (hqos h).1) (fun h => (hqos h).2))
  go_upto_region 8 with (refine wpList_loadPg (by rfl) 27 (.tmp 5) rfl gp 27 p C nc kc S ns ks rfl HP.out Try.underlying27 rfl (by kernel_rfl) ?_)
  refine PG.out.mono ?_
  rintro e w7 ⟨rfl, b7⟩
  have HZ := hide (HZ.out.keep b7)
  have HP := hide (HP.out.keep b7)
  have HM := hide (HM.out.keep b7)
  have hv1 := hv1.on b7
  clear b7 PG
  by_cases hfl : flagsP p = low
  case neg =>
    have h0 : O = none := by rw [← HO.out]; unfold endQ; rw [if_neg (fun h => hfl h.2)]
    have q1 : ((flagsP p : Int) == (low : Int)) = false := by simp; omega
    go_wp2_with fail
    refine (must_no _ _).mono ?_
    rintro e w2 ⟨rfl, rfl⟩
    go_wp2_with fail
    all_goals first | exact ⟨rfl, rfl, hv1⟩ | exact ⟨rfl, by rw [h0]; exact ⟨rfl, hv1⟩⟩
  case pos =>
  have q1 : ((flagsP p : Int) == (low : Int)) = true := by simp; omega
  have h0 : O = some p := by rw [← HO.out]; unfold endQ; rw [if_pos ⟨rfl, hfl⟩]
  have H0 := hide h0
  clear h0
  go_wp2_with fail
  refine (must_ok _ _).mono ?_
  rintro e w8 ⟨rfl, rfl⟩
  go_upto_region 99 with (first
    | (refine wpList_loadP rfl 27 (.tmp 5) rfl gp 27 p C nc kc S ns ks rfl HP.out Try.underlying27 rfl (by kernel_rfl) ?_)
    | (refine wpList_storeQ rfl 27 (.tmp 2) (.tmp 36) rfl g1 27 (zeroP 0) none 0 0 none 0 0 p C nc kc S ns ks rfl rfl HZ.out (by kernel_rfl) ?_; intro V bV BV))
  refine bodyPost_ret (results_cell rfl rfl bV Try.underlying27 rfl (by kernel_rfl)) rfl ?_
  rw [H0.out]
  obtain ⟨m1, m2, m3, m4, m5, m6⟩ := HM.out
  exact ⟨C, nc, kc, S, ns, ks, rfl, HN.out.1, HN.out.2, ⟨m1, m2, m3.but BV HC.out, m4, m5, m6.but BV HSS.out⟩, hv1.trans BV (fun i hi e => by have h1 := hv1.size; exact absurd hi (by rw [e]; have := HG1.out; omega))⟩

end Go.Proofs.Ytjaaeiemgojnbaa
