/-
  What is proved here: what the program's reader of packets makes of the codes of a Suback. Condition: at most 65535 bytes. ALSO: what the program's reader of packets makes of the filters of a Subscribe, an Unsubscribe. Condition: at most 65535 bytes. ALSO: what the program's reader of packets makes of the fields of any type. Condition: at most 65535 bytes. ALSO: what the program's reader of packets returns for all bytes, or that it gives up. Condition: at most 65535 bytes. ALSO: what the program's 'read' of package packet returns, whether its reader gives up or not. Condition: at most 65535 bytes. ALSO: what the program's Parse of package packet returns. Condition: at most 65535 bytes.
-/
import Derived.Test.YtdlhcecmodefkaaPr1
import Derived.Test.YtdlhcecmodefkaaInfo
import Derived.LoopTactic
import Derived.Defers
import Derived.Recover
import Derived.Laws.Pointers
import Derived.Test.YtdlhcecmodefkaaVt2
import Derived.Test.YtdlhcecmodefkaaPrMath
import Derived.Test.YtdlhcecmodefkaaPq13
namespace Go.Proofs.Ytdlhcecmodefkaa
set_option linter.unusedVariables false
set_option linter.unusedSimpArgs false
open Go.RowKit

/-- Codes that are read so far. -/
def codL (ys : List UInt8) (k : Nat) : List Int := (ys.take k).map (fun c => ((c.toNat : Nat) : Int)) ++ List.replicate (ys.length - k) 0
theorem codL_zero (ys : List UInt8) : codL ys 0 = List.replicate ys.length 0 := by simp [codL]
theorem codL_all (ys : List UInt8) : codL ys ys.length = ys.map (fun c => ((c.toNat : Nat) : Int)) := by simp [codL]
theorem codL_len (ys : List UInt8) (k : Nat) (h : k ≤ ys.length) : (codL ys k).length = ys.length := by simp [codL]; omega
theorem codL_set (ys : List UInt8) (k : Nat) (h : k < ys.length) : (iv (codL ys k)).set k (.int .i64 ((ys[k].toNat : Nat) : Int)) = iv (codL ys (k + 1)) := by
  have hk : ((ys.take k).map (fun c => ((c.toNat : Nat) : Int))).length = k := by simp; omega
  unfold codL iv
  rw [← List.map_set, List.set_append_right _ _ (by omega), hk, Nat.sub_self, List.take_succ_eq_append_getElem h, List.map_append]
  obtain ⟨j, hj⟩ : ∃ j, ys.length - k = j + 1 := ⟨ys.length - k - 1, by omega⟩
  rw [hj, show ys.length - (k + 1) = j by omega, List.replicate_succ]
  simp only [List.map_append, List.map_cons, List.map_nil, List.set_cons_zero, List.append_assoc, List.cons_append, List.nil_append]

set_option maxRecDepth 100000 in
set_option maxHeartbeats 2000000 in
theorem rrCodes_any (v : Bs) (xs : List UInt8) (A : Option Addr) (n k g gp : Nat) (ys : List UInt8) (w : World) (hb : RrB v xs A n k) (h : RrS v xs A n k g ys w) (hp : PkZ w gp (zeroP 9)) (hne : ¬ gp = g) (hvp : v.S gp) : Calls Try.prog 110 #[.pointer (some ⟨g, 0, none⟩), .pointer (some ⟨gp, 0, none⟩)] w (FPost v xs A n k g gp (codQ ys)) := by
  have HP := hide hp
  obtain ⟨O, hO⟩ : ∃ O, codQ ys = O := ⟨_, rfl⟩
  rw [hO]
  unfold codQ at hO
  have HO := hide hO
  have P1 := rrWord_any v xs A n k g ys w hb h
  clear h hp hO
  go_enter Try.func110, Try.ntmps110
  go_wp2_with fail
  cases hq1 : qW ys with
  | none =>
    have h0 : O = none := by rw [← HO.out, hq1]; rfl
    refine (RrPost.no P1 hq1).mono ?_
    rintro e w1 ⟨rfl, hv1⟩
    go_wp2_with fail
    all_goals first | exact ⟨rfl, rfl, hv1⟩ | exact ⟨rfl, by rw [h0]; exact ⟨rfl, hv1⟩⟩
  | some z =>
  obtain ⟨d, y2⟩ := z
  rw [hq1] at HO
  simp only [Option.bind_some] at HO
  refine (RrPost.ok P1 hq1).mono ?_
  rintro e w1 ⟨rfl, s1, b1⟩
  have HP := hide (HP.out.but b1 hne)
  have HS := hide s1
  clear s1 b1 P1 hq1
  have c2 := (Blk.p18 HP.out).2.2.1
  have f2 := HP.out.frozen 2
  go_wp2_with fail
  obtain ⟨U, hU⟩ : ∃ U, (w1.setCell ⟨gp, 2, none⟩ (.int .i64 (d : Int))) = U := ⟨_, rfl⟩
  rw [hU]
  have HP := hide (show PkZ U gp { zeroP 9 with id := (d : Int) } from by rw [← hU]; exact Blk.set HP.out 2 _)
  have HS := hide (show RrS v xs A n k g y2 U from by rw [← hU]; exact HS.out.set hne hvp 2 _)
  clear hU c2 f2
  have hlen : y2.length ≤ 65535 := by
    obtain ⟨i, -, hi, -, -, -⟩ := HS.out
    have := hb.2.2.1
    omega
  have PL := rrLeft_any v xs A n k g y2 U hb HS.out
  obtain ⟨m, hm⟩ : ∃ m, y2.length = m := ⟨_, rfl⟩
  rw [hm] at PL hlen
  have Hm := hide hm
  clear hm
  have hmk := fun W => run_mk (P := Try.prog) 24 3 (.int .i64 0) 8 Try.underlying24 int_info rfl m (by omega) (by omega) W
  refine PL.mono ?_
  rintro e w1 ⟨rfl, s1, b1⟩
  have HP1 := HP.out.but b1 hne
  have c16 := (Blk.p18 HP1).2.2.2.2.2.2.2.2.2.2.2.2.2.2.2.2.1
  have f16 := HP1.frozen 16
  have l1 := Blk.lt HP1
  have HP := hide HP1
  have HS := hide s1
  have hvz := s1.low.size
  clear s1 b1 PL HP1
  go_wp2_with fail
  clear hmk
  obtain ⟨gc, hgc⟩ : ∃ gc, w1.heap.size = gc := ⟨_, rfl⟩
  obtain ⟨T, hT⟩ : ∃ T, w1.setCell ⟨gp, 16, none⟩ (.slice (some ⟨gc, 0, none⟩) m m) = T := ⟨_, rfl⟩
  have hsz : T.heap.size = gc := by rw [← hT]; simp [hgc]
  rw [hgc, hT]
  have HPT : Blk T gp 27 (pkVs { zeroP 9 with id := (d : Int) } (some ⟨gc, 0, none⟩) m m none 0 0) := by rw [← hT]; exact Blk.set HP.out 16 _
  have HST : RrS v xs A n k g y2 T := by rw [← hT]; exact HS.out.set hne hvp 16 _
  obtain ⟨V, hV⟩ : ∃ V, T.alloc (.cells (arr (List.replicate m (Value.int .i64 0))) 3) = V := ⟨_, rfl⟩
  rw [hV]
  have bV : Below T.heap.size T V := by rw [← hV]; exact (Below.refl _ _).alloc (Nat.le_refl _) _
  have HP := hide (HPT.keep bV)
  have HS := hide (HST.keep bV)
  have HC := hide (show Blk V gc 3 (iv (codL y2 0)) from by
    rw [codL_zero, Hm.out, iv, List.map_replicate, ← hV]
    have := Blk.new T 3 (List.replicate m (Value.int .i64 0))
    rw [hsz] at this
    exact this)
  have hgg : ¬ gc = g := by
    obtain ⟨i, hB, -⟩ := HS.out
    have h1 := Blk.lt hB
    intro e
    have h2 := HC.out
    rw [e] at h2
    have := hB.symm.trans h2
    simp [arr, iv] at this
  have hgp : ¬ gc = gp := by rw [← hgc]; omega
  have hvg : v.v.heap.size ≤ gc := by rw [← hgc]; exact hvz
  have hvc : v.S gc := v.new gc hvg
  clear hV bV hsz hgc c16 f16 l1 hT HPT HST
  go_loopw [21] (fun i wr => ∃ j : Nat, j ≤ m ∧ i = .int .i64 (j : Int) ∧ Blk wr gc 3 (iv (codL y2 j)) ∧ Blk wr gp 27 (pkVs { zeroP 9 with id := (d : Int) } (some ⟨gc, 0, none⟩) m m none 0 0) ∧ RrS v xs A n k g (y2.drop j) wr) (fun i _ => m - (intOf i).toNat)
  case atStart => exact ⟨0, Nat.zero_le _, rfl, HC.out, HP.out, HS.out⟩
  case round =>
    obtain ⟨j, hj, rfl, hC, hP, hS⟩ := hrel
    clear HC HP HS
    have HC := hide hC
    have HP := hide hP
    have HS := hide hS
    clear hC hP hS
    by_cases hlt : j < m
    · have q1 : (j : Int) < (m : Int) := by omega
      have hjl : j < y2.length := by rw [Hm.out]; exact hlt
      have hq : qB (y2.drop j) = some (y2[j].toNat, y2.drop (j + 1)) := by rw [List.drop_eq_getElem_cons hjl]; rfl
      have PO := hide fun W hW => RrPost.ok (rrOctet_any v xs A n k g (y2.drop j) W hb hW) hq
      have c16 := (Blk.p18 HP.out).2.2.2.2.2.2.2.2.2.2.2.2.2.2.2.2.1
      have Hset := hide (codL_set y2 j hjl)
      have hcx := y2[j].toNat_lt
      obtain ⟨X, hX⟩ : ∃ X, y2[j].toNat = X := ⟨_, rfl⟩
      rw [hX] at PO Hset hcx
      have Hjl := hide hjl
      clear hq hX
      go_wp2_with fail
      refine wp_region_held_drew (S := fun W => W.cell? ⟨gp, 16, none⟩ = some (.slice (some ⟨gc, 0, none⟩) m m)) (by kernel_rfl) ?_ (fun hHeld => ?_)
      · exact c16
      refine wpAnyH_take (i := 0) (oi := { dst := some 24, op := _, type := _, pos := _, after := _, guard := _ }) (v := ?v1x1) rfl (by kernel_rfl) (by kernel_rfl) (by kernel_rfl) (fun _ _ _ h => h) (Or.inl ⟨by rfl, ?hy1x1⟩) hHeld ?rest1x1
      case hy1x1 => (intro w hSw; go_simp <;> with_reducible rfl)
      try simp only [Act.put, List.setIfInBounds_toArray, List.set_cons_zero, List.set_cons_succ]
      refine wpAnyH_take (i := 1) (oi := { dst := some 25, op := _, type := _, pos := _, after := _, guard := _ }) (v := ?v1x2) rfl (by kernel_rfl) (by kernel_rfl) (by kernel_rfl) (fun _ _ _ h => h) (Or.inl ⟨by rfl, ?hy1x2⟩) hHeld ?rest1x2
      case hy1x2 => (intro w hSw; go_simp <;> with_reducible rfl)
      try simp only [Act.put, List.setIfInBounds_toArray, List.set_cons_zero, List.set_cons_succ]
      refine wpAnyH_take (i := 2) (oi := { dst := some 26, op := _, type := _, pos := _, after := _, guard := _ }) (v := ?v1x3) rfl (by kernel_rfl) (by kernel_rfl) (by kernel_rfl) (fun _ _ _ h => h) (Or.inl ⟨by rfl, ?hy1x3⟩) hHeld ?rest1x3
      case hy1x3 => (intro w hSw; go_simp <;> with_reducible rfl)
      try simp only [Act.put, List.setIfInBounds_toArray, List.set_cons_zero, List.set_cons_succ]
      refine wpAnyH_take (i := 3) (oi := { dst := some 27, op := _, type := _, pos := _, after := _, guard := _ }) (v := ?v1x4) rfl (by kernel_rfl) (by kernel_rfl) (by kernel_rfl) (fun _ _ _ h => h) (Or.inl ⟨by rfl, ?hy1x4⟩) hHeld ?rest1x4
      case hy1x4 => (intro w hSw; go_simp <;> with_reducible rfl)
      try simp only [Act.put, List.setIfInBounds_toArray, List.set_cons_zero, List.set_cons_succ]
      refine wpAnyH_take (i := 4) (oi := { dst := some 28, op := _, type := _, pos := _, after := _, guard := _ }) (v := ?v1x5) rfl (by kernel_rfl) (by kernel_rfl) (by kernel_rfl) (fun _ _ _ h => h) (Or.inl ⟨by rfl, ?hy1x5⟩) hHeld ?rest1x5
      case hy1x5 => (intro w hSw; go_simp <;> with_reducible rfl)
      try simp only [Act.put, List.setIfInBounds_toArray, List.set_cons_zero, List.set_cons_succ]
      refine wpAnyH_take (i := 5) (oi := { dst := some 29, op := _, type := _, pos := _, after := _, guard := _ }) (v := ?v1x6) rfl (by kernel_rfl) (by kernel_rfl) (by kernel_rfl) (fun _ _ _ h => h) (Or.inl ⟨by rfl, ?hy1x6⟩) hHeld ?rest1x6
      case hy1x6 => (intro w hSw; go_simp <;> with_reducible rfl)
      try simp only [Act.put, List.setIfInBounds_toArray, List.set_cons_zero, List.set_cons_succ]
      refine wpAnyH_ready (rs := [6]) (by kernel_rfl) (by simp) (AllReadyH.cons (o := { dst := some 30, op := _, type := _, pos := _, after := _, guard := _ }) rfl (fun K hK => ?_) AllReadyH.nil)
      go_simp
      refine (PO.out _ (HS.out.keep (below_drewN (Below.refl _ _) 1))).mono ?_
      rintro e w1 ⟨rfl, s1, b1⟩
      replace b1 : But (fun i => i = g) wr w1 := But.after (below_drewN (Below.refl _ _) 1) b1
      have HP1 := HP.out.but b1 (by simpa using hne)
      have HC1 := HC.out.but b1 (by simpa using hgg)
      have c16' := (Blk.p18 HP1).2.2.2.2.2.2.2.2.2.2.2.2.2.2.2.2.1
      have cc : w1.cell? ⟨gc, j, none⟩ = some (.int .i64 0) := by
        rw [HC1.cell, iv, List.getElem?_map]
        unfold codL
        have hk : ((y2.take j).map (fun c => ((c.toNat : Nat) : Int))).length = j := by have := Hjl.out; simp; omega
        rw [List.getElem?_append_right (by omega), hk, Nat.sub_self, List.getElem?_replicate, if_pos (by have := Hjl.out; omega)]
        rfl
      have fc := HC1.frozen j
      have HP := hide HP1
      have HC := hide HC1
      have HS := hide s1
      clear HP1 HC1 s1 b1
      go_wp2_with fail
      refine hK.out _ _ ?_ (fun hHeld => ?_)
      · exact c16'
      clear hK K
      try simp only [Act.put, List.setIfInBounds_toArray, List.set_cons_zero, List.set_cons_succ]
      refine wpAnyH_take (i := 7) (oi := { dst := some 31, op := _, type := _, pos := _, after := _, guard := _ }) (v := ?v1x8) rfl (by kernel_rfl) (by kernel_rfl) (by kernel_rfl) (fun _ _ _ h => h) (Or.inl ⟨by rfl, ?hy1x8⟩) hHeld ?rest1x8
      case hy1x8 => (intro w hSw; go_simp <;> with_reducible rfl)
      try simp only [Act.put, List.setIfInBounds_toArray, List.set_cons_zero, List.set_cons_succ]
      refine wpAnyH_ready (rs := [8]) (by kernel_rfl) (by simp) (AllReadyH.cons (o := { dst := none, op := _, type := _, pos := _, after := _, guard := _ }) rfl (fun K hK => ?_) AllReadyH.nil)
      go_simp
      go_wp2_with fail
      refine hK.out _ _ ?_ (fun hHeld => ?_)
      · exact (Blk.p18 (Blk.oth HP.out hgp _ _)).2.2.2.2.2.2.2.2.2.2.2.2.2.2.2.2.1
      clear hK K
      try simp only [Act.put, List.setIfInBounds_toArray, List.set_cons_zero, List.set_cons_succ]
      refine wpAnyH_done (by kernel_rfl) ?_ _
      go_wp2_with fail
      exact ⟨⟨j + 1, by omega, by go_num, by rw [← Hset.out]; exact HC.out.set j _, Blk.oth HP.out hgp _ _, HS.out.set hgg hvc j _⟩, by simp [intOf]; omega⟩
    · obtain rfl : j = m := by omega
      have q1 : ¬ (j : Int) < (j : Int) := by omega
      go_wp2_with fail
      go_end0
      rw [← HO.out]
      have hl := Hm.out
      refine ⟨rfl, ?_, some ⟨gc, 0, none⟩, j, j, none, 0, 0, HP.out, (fun b o e => by injection e with e; injection e with e1; rw [← e1]; exact hvg), NewAt.nil _, ?_, Nat.le_refl _, ?_, rfl, Nat.le_refl _, Rd.nil _ _⟩
      · have := HS.out
        rw [← hl, List.drop_length] at this
        exact this
      · simp [hl]
      · have := HC.out.rd
        rw [← hl, codL_all, iv_length, List.length_map, hl] at this
        exact this

end Go.Proofs.Ytdlhcecmodefkaa

namespace Go.Proofs.Ytdlhcecmodefkaa
set_option linter.unusedVariables false
set_option linter.unusedSimpArgs false
open Go.RowKit

theorem sub_info : (Try.prog.info? 59).map (fun i => (i.zero, i.size, i.bytes)) = some (some (.agg #[.string ByteArray.empty, .int .i64 0]), 2, 24) := by kernel_rfl
/-- Where a reader stands. -/
def posOf (w : World) (g : Nat) : Nat := match w.cell? ⟨g, 1, none⟩ with
  | some (.int _ i) => i.toNat
  | _ => 0
theorem RrS.pos {v : Bs} {w : World} {xs : List UInt8} {A : Option Addr} {n k g : Nat} {ys : List UInt8} (h : RrS v xs A n k g ys w) : posOf w g + ys.length = n := by
  obtain ⟨i, hB, hi, -, -, -⟩ := h
  have c1 := hB.cell 1
  simp only [List.getElem?_cons_zero, List.getElem?_cons_succ] at c1
  unfold posOf
  rw [c1]
  simp only [Int.toNat_natCast]
  exact hi
theorem RrS.but {S : Nat → Prop} {v : Bs} {w w' : World} {xs : List UInt8} {A : Option Addr} {n k g : Nat} {ys : List UInt8} (h : RrS v xs A n k g ys w) (b : But S w w') (hne : ¬ S g) (hv : ∀ i, S i → v.S i) : RrS v xs A n k g ys w' := by
  obtain ⟨i, hB, hi, hd, hg, hlo⟩ := h
  exact ⟨i, hB.but b hne, hi, hd, hg, hlo.trans b (fun i _ e => hv i e)⟩
theorem RrS.lt {v : Bs} {w : World} {xs : List UInt8} {A : Option Addr} {n k g : Nat} {ys : List UInt8} (h : RrS v xs A n k g ys w) : g < w.heap.size := by
  obtain ⟨i, hB, -⟩ := h
  exact hB.lt
/-- What is still to come of filters. -/
def namE (t : Nat) (d : Nat) (l : List (List UInt8 × Int)) (o : Option (List (List UInt8 × Int))) : Option (Pk × List UInt8) := o.bind fun m => some ({ zeroP t with id := (d : Int), subs := l ++ m }, [])
theorem namE_step (t d : Nat) (l : List (List UInt8 × Int)) (s : List UInt8 × Int) (o : Option (List (List UInt8 × Int))) : namE t d (l ++ [s]) o = namE t d l (o.bind fun m => some (s :: m)) := by
  cases o <;> simp [namE]
theorem subsQ_step (q : Bool) (K : Nat) (r : List UInt8) (hr : r ≠ []) : subsQ q (K + 1) r = (subQ q r).bind fun s => (subsQ q K s.2).bind fun l => some (s.1 :: l) := by
  conv => lhs; unfold subsQ
  rw [if_neg hr]
theorem subsQ_nil (q : Bool) (K : Nat) : subsQ q K [] = some [] := by cases K <;> simp [subsQ]
theorem qT_len {ys s t : List UInt8} (h : qT ys = some (s, t)) : t.length + 2 ≤ ys.length := by
  have := congrArg List.length (qT_some h).1
  rw [List.length_append, textL_len] at this
  simp only at this
  omega

set_option maxRecDepth 100000 in
set_option maxHeartbeats 4000000 in
theorem rrNames_any (t : Nat) (qos : Bool) (v : Bs) (xs : List UInt8) (A : Option Addr) (n k g gp : Nat) (ys : List UInt8) (w : World) (hb : RrB v xs A n k) (h : RrS v xs A n k g ys w) (hp : PkZ w gp (zeroP t)) (hne : ¬ gp = g) (hvp : v.S gp) : Calls Try.prog 109 #[.pointer (some ⟨g, 0, none⟩), .pointer (some ⟨gp, 0, none⟩), .bool qos] w (FPost v xs A n k g gp (namQ t qos ys)) := by
  have HP := hide hp
  obtain ⟨O, hO⟩ : ∃ O, namQ t qos ys = O := ⟨_, rfl⟩
  rw [hO]
  unfold namQ at hO
  have HO := hide hO
  have P1 := rrWord_any v xs A n k g ys w hb h
  clear h hp hO
  go_enter Try.func109, Try.ntmps109
  go_wp2_with fail
  cases hq1 : qW ys with
  | none =>
    have h0 : O = none := by rw [← HO.out, hq1]; rfl
    refine (RrPost.no P1 hq1).mono ?_
    rintro e w1 ⟨rfl, hv1⟩
    go_wp2_with fail
    all_goals first | exact ⟨rfl, rfl, hv1⟩ | exact ⟨rfl, by rw [h0]; exact ⟨rfl, hv1⟩⟩
  | some z =>
  obtain ⟨d, y2⟩ := z
  rw [hq1] at HO
  simp only [Option.bind_some] at HO
  refine (RrPost.ok P1 hq1).mono ?_
  rintro e w1 ⟨rfl, s1, b1⟩
  have HP := hide (HP.out.but b1 hne)
  have HS := hide s1
  clear s1 b1 P1 hq1
  have c2 := (Blk.p18 HP.out).2.2.1
  have f2 := HP.out.frozen 2
  go_wp2_with fail
  obtain ⟨U, hU⟩ : ∃ U, (w1.setCell ⟨gp, 2, none⟩ (.int .i64 (d : Int))) = U := ⟨_, rfl⟩
  rw [hU]
  have HP := hide (show Blk U gp 27 (pkVs { zeroP t with id := (d : Int) } none 0 0 none 0 0) from by rw [← hU]; exact Blk.set HP.out 2 _)
  have HS := hide (show RrS v xs A n k g y2 U from by rw [← hU]; exact HS.out.set hne hvp 2 _)
  clear hU c2 f2
  have hlen : y2.length ≤ 65535 := by
    have := HS.out.pos
    have := hb.2.2.1
    omega
  obtain ⟨base, hbase⟩ : ∃ base, U.heap.size = base := ⟨_, rfl⟩
  have hgb : g < base := by rw [← hbase]; exact HS.out.lt
  have hpb : gp < base := by rw [← hbase]; exact HP.out.lt
  have hvb : v.v.heap.size ≤ base := by rw [← hbase]; exact HS.out.low.size
  go_loopw [13] (fun _ wr => ∃ (l : List (List UInt8 × Int)) (r : List UInt8) (K : Nat) (S : Option Addr) (ks : Nat), l.length + r.length ≤ 65535 ∧ r.length ≤ K ∧ namE t d l (subsQ qos K r) = O ∧ wr.ownsRow base 59 2 (.slice S l.length ks) l.length (subVs l) ∧ Blk wr gp 27 (pkVs { zeroP t with id := (d : Int) } none 0 0 S l.length ks) ∧ RrS v xs A n k g r wr ∧ base ≤ wr.heap.size) (fun _ wr => n - posOf wr g)
  case atStart => exact ⟨[], y2, y2.length, none, 0, by simpa using hlen, Nat.le_refl _, by rw [← HO.out]; rfl, ⟨rfl, .inl ⟨rfl, rfl⟩⟩, HP.out, HS.out, Nat.le_of_eq hbase.symm⟩
  case round =>
    obtain ⟨l, r, K, S, ks, hlr, hK, hE, hR, hP, hS, hbz⟩ := hrel
    clear HP HS HO
    have HP := hide hP
    have HS := hide hS
    have HR := hide hR
    have HE := hide hE
    clear hP hS hR hE
    have PL := hide (rrLeft_any v xs A n k g r wr hb HS.out)
    have Hpos := hide HS.out.pos
    obtain ⟨W0, hW0⟩ : ∃ W0, wr = W0 := ⟨_, rfl⟩
    subst hW0
    by_cases hr : r = []
    · subst hr
      rw [List.length_nil] at PL
      go_wp2_with fail
      refine PL.out.mono ?_
      rintro e w1 ⟨rfl, s1, b1⟩
      have HP := hide (HP.out.but b1 (by simpa using hne))
      have HR := hide (ownS_but HR.out b1 (fun b o e h => by have := ownS_new HR.out b o e; have h' : b = g := h; omega))
      go_wp2_with fail
      go_end0
      have hO : O = some ({ zeroP t with id := (d : Int), subs := l }, []) := by
        rw [← HE.out, subsQ_nil]
        show some (_, _) = _
        rw [List.append_nil]
      rw [hO]
      refine ⟨rfl, s1, none, 0, 0, S, l.length, ks, HP.out, NewAt.nil _, (fun b o e => Nat.le_trans hvb (ownS_new HR.out b o e)), rfl, Nat.le_refl _, Rd.nil _ _, rfl, ownS_cap HR.out, ownS_rd HR.out⟩
    · have hr0 : 0 < r.length := List.length_pos_iff.2 hr
      obtain ⟨K', rfl⟩ : ∃ K', K = K' + 1 := ⟨K - 1, by omega⟩
      have hE := HE.out
      rw [subsQ_step qos K' r hr] at hE
      have HE := hide hE
      obtain ⟨m, hm⟩ : ∃ m, r.length = m := ⟨_, rfl⟩
      have Hm := hide hm
      rw [hm] at PL hr0
      have q0 : (m : Int) > 0 := by omega
      clear hE
      go_wp2_with fail
      refine PL.out.mono ?_
      rintro e w1 ⟨rfl, s1, b1⟩
      have HP := hide (HP.out.but b1 (by simpa using hne))
      have HR := hide (ownS_but HR.out b1 (fun b o e h => by have := ownS_new HR.out b o e; have h' : b = g := h; omega))
      have HS := hide s1
      have hbz := Nat.le_trans hbz b1.size
      clear s1 b1 PL
      go_wp2_with fail
      have P1 := rrText_any v xs A n k g r w1 hb HS.out
      cases hq1 : qT r with
      | none =>
        have h0 : O = none := by rw [← HE.out]; unfold subQ; rw [hq1]; rfl
        refine (RrPost.no P1 hq1).mono ?_
        rintro e w1 ⟨rfl, hv1⟩
        go_wp2_with fail
        all_goals first | exact ⟨rfl, rfl, hv1⟩ | exact ⟨rfl, by rw [h0]; exact ⟨rfl, hv1⟩⟩
      | some z =>
      obtain ⟨f, r1⟩ := z
      have hlen1 := qT_len hq1
      have HE := hide (show namE t d l ((if qos = true then (qB r1).bind fun q => some ((f, (q.1 : Int)), q.2) else some ((f, (0 : Int)), r1)).bind fun s => (subsQ qos K' s.2).bind fun l => some (s.1 :: l)) = O from by
        have := HE.out
        unfold subQ at this
        rw [hq1] at this
        exact this)
      refine (RrPost.ok P1 hq1).mono ?_
      rintro e w2 ⟨rfl, s1, b1⟩
      have HP := hide (HP.out.but b1 (by simpa using hne))
      have HR := hide (ownS_but HR.out b1 (fun b o e h => by have := ownS_new HR.out b o e; have h' : b = g := h; omega))
      have HS := hide s1
      have hbz := Nat.le_trans hbz b1.size
      clear s1 b1 P1 hq1
      have hpw : gp < w2.heap.size := Nat.lt_of_lt_of_le hpb hbz
      obtain ⟨gs, hgs⟩ : ∃ gs, w2.heap.size = gs := ⟨_, rfl⟩
      have hSgs : ¬ ∃ o, S = some ⟨gs, o, none⟩ := fun ⟨o, e⟩ => by have := ownS_lt HR.out gs o e; omega
      have hsb : base ≤ gs := by omega
      have hgsg : ¬ gs = g := by omega
      have hgsp : ¬ gs = gp := by omega
      have hvs : v.S gs := v.new gs (by omega)
      have Hgs := hide hgs
      clear hgs
      obtain ⟨U1, hU1⟩ : ∃ U1, w2.alloc (.cells #[.string (str f), .int .i64 0] 59) = U1 := ⟨_, rfl⟩
      have bU : Below w2.heap.size w2 U1 := by rw [← hU1]; exact (Below.refl _ _).alloc (Nat.le_refl _) _
      have HP := hide (HP.out.keep bU)
      have HS := hide (HS.out.keep bU)
      have HR := hide (ownS_keep HR.out bU)
      have HG := hide (show Blk U1 gs 59 [.string (str f), .int .i64 0] from by rw [← hU1, ← Hgs.out]; exact Blk.new w2 59 _)
      have hbz := Nat.le_trans hbz bU.size
      have HU1 := hide hU1
      clear bU hU1
      cases qos with
      | true =>
        go_wp2_with fail
        rw [HU1.out, Hgs.out]
        have P1 := rrOctet_any v xs A n k g r1 U1 hb HS.out
        cases hq1 : qB r1 with
        | none =>
          have h0 : O = none := by rw [← HE.out, if_pos trivial, hq1]; rfl
          refine (RrPost.no P1 hq1).mono ?_
          rintro e w1 ⟨rfl, hv1⟩
          go_wp2_with fail
          all_goals first | exact ⟨rfl, rfl, hv1⟩ | exact ⟨rfl, by rw [h0]; exact ⟨rfl, hv1⟩⟩
        | some z =>
        obtain ⟨c, r2⟩ := z
        have HE := hide (show namE t d l ((subsQ true K' r2).bind fun l => some ((f, (c : Int)) :: l)) = O from by rw [← HE.out, if_pos trivial, hq1]; rfl)
        have hlen2 : r2.length < r1.length := by
          have := congrArg List.length (qB_some hq1).1
          simp at this
          omega
        refine (RrPost.ok P1 hq1).mono ?_
        rintro e w3 ⟨rfl, s1, b1⟩
        have HP := hide (HP.out.but b1 (by simpa using hne))
        have HR := hide (ownS_but HR.out b1 (fun b o e h => by have := ownS_new HR.out b o e; have h' : b = g := h; omega))
        have HG := hide (HG.out.but b1 (by simpa using hgsg))
        have HS := hide s1
        have hbz := Nat.le_trans hbz b1.size
        clear s1 b1 P1 hq1
        have cg := HG.out.cell 1
        simp only [List.getElem?_cons_zero, List.getElem?_cons_succ] at cg
        have fg := HG.out.frozen 1
        go_wp2_with fail
        obtain ⟨U, hU⟩ : ∃ U, w3.setCell ⟨gs, 1, none⟩ (.int .i64 (c : Int)) = U := ⟨_, rfl⟩
        rw [hU]
        have HP := hide (show Blk U gp 27 (pkVs { zeroP t with id := (d : Int) } none 0 0 S l.length ks) from by rw [← hU]; exact Blk.oth HP.out hgsp _ _)
        have HS := hide (show RrS v xs A n k g r2 U from by rw [← hU]; exact HS.out.set hgsg hvs 1 _)
        have HR := hide (show U.ownsRow base 59 2 (.slice S l.length ks) l.length (subVs l) from by rw [← hU]; exact ownS_but HR.out (But.setCell (S := fun i => i = gs) w3 _ rfl) (fun b o e h => by have h' : b = gs := h; exact hSgs ⟨o, by rw [← h']; exact e⟩))
        have HG := hide (show Blk U gs 59 [.string (str f), .int .i64 (c : Int)] from by rw [← hU]; exact Blk.set HG.out 1 _)
        have hbz : base ≤ U.heap.size := by rw [← hU]; simpa using hbz
        clear hU cg fg
        have hbel : Below U.heap.size U (U.drew.alloc (.cells #[.string (str f), .int .i64 (c : Int)] 59)) := ((Below.refl _ _).drew).alloc (Nat.le_refl _) _
        have hrd : Rd (U.drew.alloc (.cells #[.string (str f), .int .i64 (c : Int)] 59)) (some ⟨U.heap.size, 0, none⟩) 2 (subVs [(f, (c : Int))]) := (Blk.new U.drew 59 [.string (str f), .int .i64 (c : Int)]).rd
        have Hbel := hide hbel
        have Hrd := hide hrd
        obtain ⟨g0, g1⟩ : U.cell? ⟨gs, 0, none⟩ = some (.string (str f)) ∧ U.cell? ⟨gs, 1, none⟩ = some (.int .i64 (c : Int)) := ⟨HG.out.cell 0, HG.out.cell 1⟩
        have c17 := (Blk.p18 HP.out).2.2.2.2.2.2.2.2.2.2.2.2.2.2.2.2.2
        have l17 := Blk.lt HP.out
        have hll : l.length ≤ 65535 := by omega
        clear hbel hrd
        refine wp_region_held_drew (S := fun W => W.cell? ⟨gs, 0, none⟩ = some (.string (str f)) ∧ W.cell? ⟨gs, 1, none⟩ = some (.int .i64 (c : Int))) (by kernel_rfl) ?_ (fun hHeld => ?_)
        · exact ⟨g0, g1⟩
        refine wpAnyH_take (i := 0) (oi := { dst := some 22, op := _, type := _, pos := _, after := _, guard := _ }) (v := ?v2x1) rfl (by kernel_rfl) (by kernel_rfl) (by kernel_rfl) (fun _ _ _ h => h) (Or.inl ⟨by rfl, ?hy2x1⟩) hHeld ?rest2x1
        case hy2x1 => (intro w hSw; go_simp <;> with_reducible rfl)
        try simp only [Act.put, List.setIfInBounds_toArray, List.set_cons_zero, List.set_cons_succ]
        refine wpAnyH_take (i := 1) (oi := { dst := some 23, op := _, type := _, pos := _, after := _, guard := _ }) (v := ?v2x2) rfl (by kernel_rfl) (by kernel_rfl) (by kernel_rfl) (fun _ _ _ h => h) (Or.inl ⟨by rfl, ?hy2x2⟩) hHeld ?rest2x2
        case hy2x2 => (intro w hSw; go_simp <;> with_reducible rfl)
        try simp only [Act.put, List.setIfInBounds_toArray, List.set_cons_zero, List.set_cons_succ]
        refine wpAnyH_take (i := 2) (oi := { dst := some 24, op := _, type := _, pos := _, after := _, guard := _ }) (v := ?v2x3) rfl (by kernel_rfl) (by kernel_rfl) (by kernel_rfl) (fun _ _ _ h => h) (Or.inl ⟨by rfl, ?hy2x3⟩) hHeld ?rest2x3
        case hy2x3 => (intro w hSw; go_simp <;> with_reducible rfl)
        try simp only [Act.put, List.setIfInBounds_toArray, List.set_cons_zero, List.set_cons_succ]
        refine wpAnyH_take (i := 3) (oi := { dst := some 25, op := _, type := _, pos := _, after := _, guard := _ }) (v := ?v2x4) rfl (by kernel_rfl) (by kernel_rfl) (by kernel_rfl) (fun _ _ _ h => h) (Or.inl ⟨by rfl, ?hy2x4⟩) hHeld ?rest2x4
        case hy2x4 => (intro w hSw; go_simp <;> with_reducible rfl)
        try simp only [Act.put, List.setIfInBounds_toArray, List.set_cons_zero, List.set_cons_succ]
        refine wpAnyH_take (i := 5) (oi := { dst := some 27, op := _, type := _, pos := _, after := _, guard := _ }) (v := ?v2x5) rfl (by kernel_rfl) (by kernel_rfl) (by kernel_rfl) (fun _ _ _ h => h) (Or.inl ⟨by rfl, ?hy2x5⟩) hHeld ?rest2x5
        case hy2x5 => (intro w hSw; go_simp <;> with_reducible rfl)
        try simp only [Act.put, List.setIfInBounds_toArray, List.set_cons_zero, List.set_cons_succ]
        refine wpAnyH_ready (rs := [4, 6]) (by kernel_rfl) (by simp) (AllReadyH.cons (o := { dst := some 26, op := _, type := _, pos := _, after := _, guard := _ }) rfl (fun K hK => ?way2x6x4) (AllReadyH.cons (o := { dst := some 28, op := _, type := _, pos := _, after := _, guard := _ }) rfl (fun K hK => ?way2x6x6) AllReadyH.nil))
        case' way2x6x4 =>
          go_simp
          go_wp2_with fail
          refine hK.out _ _ ?_ (fun hHeld => ?_)
          · exact hHeld
          clear hK K
          try simp only [Act.put, List.setIfInBounds_toArray, List.set_cons_zero, List.set_cons_succ]
          refine wpAnyH_ready (rs := [6]) (by kernel_rfl) (by simp) (AllReadyH.cons (o := { dst := some 28, op := _, type := _, pos := _, after := _, guard := _ }) rfl (fun K hK => ?_) AllReadyH.nil)
          go_simp
          go_wp2_with fail
          refine hK.out _ _ ?_ (fun hHeld => ?_)
          · exact ⟨(HG.out.keep Hbel.out).cell 0, (HG.out.keep Hbel.out).cell 1⟩
          clear hK K
          try simp only [Act.put, List.setIfInBounds_toArray, List.set_cons_zero, List.set_cons_succ]
          refine wpAnyH_ready (rs := [7]) (by kernel_rfl) (by simp) (AllReadyH.cons (o := { dst := some 29, op := _, type := _, pos := _, after := _, guard := _ }) rfl (fun K hK => ?_) AllReadyH.nil)
          rw [if_pos (by rfl)]
          refine op_appS (.tmp 26) (.tmp 28) 25 rfl 59 _ 2 24 Try.underlying25 sub_info rfl (by decide) base S l.length ks (subVs l) rfl (ownS_keep HR.out Hbel.out) (some ⟨U.heap.size, 0, none⟩) 1 1 (subVs [(f, (c : Int))]) rfl Hrd.out (subVs_one _) (by unfold maxLen; omega) (by omega) (Nat.le_trans hbz Hbel.out.size) ?_
          intro A3 k3 w3 o3 b3 h3
          have hb3 : But (fun i => base ≤ i) U w3 := (But.ofBelow Hbel.out _).trans (b3.wide (fun i ⟨o, e⟩ => ownS_new HR.out i o e)) (fun _ _ e => e)
          have HG3 := (HG.out.keep Hbel.out).but b3 hSgs
          have hP3 := HP.out.but hb3 (by omega)
          have c17 := (Blk.p18 hP3).2.2.2.2.2.2.2.2.2.2.2.2.2.2.2.2.2
          have f17 := Blk.frozen hP3 17
          have HP3 := hide hP3
          have HS3 := hide (HS.out.but hb3 (by omega) (fun i hi => v.new i (Nat.le_trans hvb hi)))
          have O3 := hide o3
          have Hb3 := hide hb3
          have HG3 := hide HG3
          clear hP3 o3 hb3 b3 h3
          refine hK.out _ _ ?_ (fun hHeld => ?_)
          · exact ⟨HG3.out.cell 0, HG3.out.cell 1⟩
          clear hK K
          try simp only [Act.put, List.setIfInBounds_toArray, List.set_cons_zero, List.set_cons_succ]
          refine wpAnyH_take (i := 8) (oi := { dst := some 30, op := _, type := _, pos := _, after := _, guard := _ }) (v := ?v2x9) rfl (by kernel_rfl) (by kernel_rfl) (by kernel_rfl) (fun _ _ _ h => h) (Or.inl ⟨by rfl, ?hy2x9⟩) hHeld ?rest2x9
          case hy2x9 => (intro w hSw; go_simp <;> with_reducible rfl)
          try simp only [Act.put, List.setIfInBounds_toArray, List.set_cons_zero, List.set_cons_succ]
          refine wpAnyH_take (i := 9) (oi := { dst := some 31, op := _, type := _, pos := _, after := _, guard := _ }) (v := ?v2x10) rfl (by kernel_rfl) (by kernel_rfl) (by kernel_rfl) (fun _ _ _ h => h) (Or.inl ⟨by rfl, ?hy2x10⟩) hHeld ?rest2x10
          case hy2x10 => (intro w hSw; go_simp <;> with_reducible rfl)
          try simp only [Act.put, List.setIfInBounds_toArray, List.set_cons_zero, List.set_cons_succ]
          refine wpAnyH_ready (rs := [10]) (by kernel_rfl) (by simp) (AllReadyH.cons (o := { dst := none, op := _, type := _, pos := _, after := _, guard := _ }) rfl (fun K hK => ?_) AllReadyH.nil)
          go_simp
          go_wp2_with fail
          refine hK.out _ _ ?_ (fun hHeld => ?_)
          · exact ⟨(Blk.oth HG3.out (fun e => hgsp e.symm) _ _).cell 0, (Blk.oth HG3.out (fun e => hgsp e.symm) _ _).cell 1⟩
          clear hK K
          try simp only [Act.put, List.setIfInBounds_toArray, List.set_cons_zero, List.set_cons_succ]
          refine wpAnyH_done (by kernel_rfl) ?_ _
        case' way2x6x6 =>
          go_simp
          go_wp2_with fail
          refine hK.out _ _ ?_ (fun hHeld => ?_)
          · exact ⟨(HG.out.keep Hbel.out).cell 0, (HG.out.keep Hbel.out).cell 1⟩
          clear hK K
          try simp only [Act.put, List.setIfInBounds_toArray, List.set_cons_zero, List.set_cons_succ]
          refine wpAnyH_ready (rs := [4]) (by kernel_rfl) (by simp) (AllReadyH.cons (o := { dst := some 26, op := _, type := _, pos := _, after := _, guard := _ }) rfl (fun K hK => ?_) AllReadyH.nil)
          go_simp
          go_wp2_with fail
          refine hK.out _ _ ?_ (fun hHeld => ?_)
          · exact hHeld
          clear hK K
          try simp only [Act.put, List.setIfInBounds_toArray, List.set_cons_zero, List.set_cons_succ]
          refine wpAnyH_ready (rs := [7]) (by kernel_rfl) (by simp) (AllReadyH.cons (o := { dst := some 29, op := _, type := _, pos := _, after := _, guard := _ }) rfl (fun K hK => ?_) AllReadyH.nil)
          rw [if_pos (by rfl)]
          refine op_appS (.tmp 26) (.tmp 28) 25 rfl 59 _ 2 24 Try.underlying25 sub_info rfl (by decide) base S l.length ks (subVs l) rfl (ownS_keep HR.out Hbel.out) (some ⟨U.heap.size, 0, none⟩) 1 1 (subVs [(f, (c : Int))]) rfl Hrd.out (subVs_one _) (by unfold maxLen; omega) (by omega) (Nat.le_trans hbz Hbel.out.size) ?_
          intro A3 k3 w3 o3 b3 h3
          have hb3 : But (fun i => base ≤ i) U w3 := (But.ofBelow Hbel.out _).trans (b3.wide (fun i ⟨o, e⟩ => ownS_new HR.out i o e)) (fun _ _ e => e)
          have HG3 := (HG.out.keep Hbel.out).but b3 hSgs
          have hP3 := HP.out.but hb3 (by omega)
          have c17 := (Blk.p18 hP3).2.2.2.2.2.2.2.2.2.2.2.2.2.2.2.2.2
          have f17 := Blk.frozen hP3 17
          have HP3 := hide hP3
          have HS3 := hide (HS.out.but hb3 (by omega) (fun i hi => v.new i (Nat.le_trans hvb hi)))
          have O3 := hide o3
          have Hb3 := hide hb3
          have HG3 := hide HG3
          clear hP3 o3 hb3 b3 h3
          refine hK.out _ _ ?_ (fun hHeld => ?_)
          · exact ⟨HG3.out.cell 0, HG3.out.cell 1⟩
          clear hK K
          try simp only [Act.put, List.setIfInBounds_toArray, List.set_cons_zero, List.set_cons_succ]
          refine wpAnyH_take (i := 8) (oi := { dst := some 30, op := _, type := _, pos := _, after := _, guard := _ }) (v := ?v2x14) rfl (by kernel_rfl) (by kernel_rfl) (by kernel_rfl) (fun _ _ _ h => h) (Or.inl ⟨by rfl, ?hy2x14⟩) hHeld ?rest2x14
          case hy2x14 => (intro w hSw; go_simp <;> with_reducible rfl)
          try simp only [Act.put, List.setIfInBounds_toArray, List.set_cons_zero, List.set_cons_succ]
          refine wpAnyH_take (i := 9) (oi := { dst := some 31, op := _, type := _, pos := _, after := _, guard := _ }) (v := ?v2x15) rfl (by kernel_rfl) (by kernel_rfl) (by kernel_rfl) (fun _ _ _ h => h) (Or.inl ⟨by rfl, ?hy2x15⟩) hHeld ?rest2x15
          case hy2x15 => (intro w hSw; go_simp <;> with_reducible rfl)
          try simp only [Act.put, List.setIfInBounds_toArray, List.set_cons_zero, List.set_cons_succ]
          refine wpAnyH_ready (rs := [10]) (by kernel_rfl) (by simp) (AllReadyH.cons (o := { dst := none, op := _, type := _, pos := _, after := _, guard := _ }) rfl (fun K hK => ?_) AllReadyH.nil)
          go_simp
          go_wp2_with fail
          refine hK.out _ _ ?_ (fun hHeld => ?_)
          · exact ⟨(Blk.oth HG3.out (fun e => hgsp e.symm) _ _).cell 0, (Blk.oth HG3.out (fun e => hgsp e.symm) _ _).cell 1⟩
          clear hK K
          try simp only [Act.put, List.setIfInBounds_toArray, List.set_cons_zero, List.set_cons_succ]
          refine wpAnyH_done (by kernel_rfl) ?_ _
        all_goals
          clear hHeld c17 f17 g0 g1
          go_wp2_with fail
          refine ⟨⟨l ++ [(f, (c : Int))], r2, K', A3, k3, by simp; omega, by omega, ?_, ?_, ?_, HS3.out.set hne hvp 17 _, by have := Hb3.out.size; simp; omega⟩, ?_⟩
          · rw [← HE.out]
            exact namE_step _ _ _ _ _
          · have h1 := ownS_but O3.out (But.setCell (S := fun i => i = gp) w3 (.slice A3 (l.length + 1) k3) rfl (i := 17)) (fun b o e h => by have := ownS_new O3.out b o e; have h' : b = gp := h; omega)
            rw [List.length_append, subVs_append]
            exact h1
          · rw [List.length_append]
            exact Blk.set HP3.out 17 _
          · have h1 := (HS3.out.set hne hvp 17 (.slice A3 (l.length + 1) k3)).pos
            have h2 := Hpos.out
            have h3 := Hm.out
            omega
      | false =>
        have HE := hide (show namE t d l ((subsQ false K' r1).bind fun l => some ((f, (0 : Int)) :: l)) = O from by rw [← HE.out, if_neg (by simp)]; rfl)
        go_wp2_with fail
        rw [HU1.out, Hgs.out]
        have hbel : Below U1.heap.size U1 (U1.drew.alloc (.cells #[.string (str f), .int .i64 0] 59)) := ((Below.refl _ _).drew).alloc (Nat.le_refl _) _
        have hrd : Rd (U1.drew.alloc (.cells #[.string (str f), .int .i64 0] 59)) (some ⟨U1.heap.size, 0, none⟩) 2 (subVs [(f, 0)]) := (Blk.new U1.drew 59 [.string (str f), .int .i64 0]).rd
        have Hbel := hide hbel
        have Hrd := hide hrd
        obtain ⟨g0, g1⟩ : U1.cell? ⟨gs, 0, none⟩ = some (.string (str f)) ∧ U1.cell? ⟨gs, 1, none⟩ = some (.int .i64 0) := ⟨HG.out.cell 0, HG.out.cell 1⟩
        have c17 := (Blk.p18 HP.out).2.2.2.2.2.2.2.2.2.2.2.2.2.2.2.2.2
        have l17 := Blk.lt HP.out
        have hll : l.length ≤ 65535 := by omega
        clear hbel hrd
        refine wp_region_held_drew (S := fun W => W.cell? ⟨gs, 0, none⟩ = some (.string (str f)) ∧ W.cell? ⟨gs, 1, none⟩ = some (.int .i64 0)) (by kernel_rfl) ?_ (fun hHeld => ?_)
        · exact ⟨g0, g1⟩
        refine wpAnyH_take (i := 0) (oi := { dst := some 22, op := _, type := _, pos := _, after := _, guard := _ }) (v := ?v3x1) rfl (by kernel_rfl) (by kernel_rfl) (by kernel_rfl) (fun _ _ _ h => h) (Or.inl ⟨by rfl, ?hy3x1⟩) hHeld ?rest3x1
        case hy3x1 => (intro w hSw; go_simp <;> with_reducible rfl)
        try simp only [Act.put, List.setIfInBounds_toArray, List.set_cons_zero, List.set_cons_succ]
        refine wpAnyH_take (i := 1) (oi := { dst := some 23, op := _, type := _, pos := _, after := _, guard := _ }) (v := ?v3x2) rfl (by kernel_rfl) (by kernel_rfl) (by kernel_rfl) (fun _ _ _ h => h) (Or.inl ⟨by rfl, ?hy3x2⟩) hHeld ?rest3x2
        case hy3x2 => (intro w hSw; go_simp <;> with_reducible rfl)
        try simp only [Act.put, List.setIfInBounds_toArray, List.set_cons_zero, List.set_cons_succ]
        refine wpAnyH_take (i := 2) (oi := { dst := some 24, op := _, type := _, pos := _, after := _, guard := _ }) (v := ?v3x3) rfl (by kernel_rfl) (by kernel_rfl) (by kernel_rfl) (fun _ _ _ h => h) (Or.inl ⟨by rfl, ?hy3x3⟩) hHeld ?rest3x3
        case hy3x3 => (intro w hSw; go_simp <;> with_reducible rfl)
        try simp only [Act.put, List.setIfInBounds_toArray, List.set_cons_zero, List.set_cons_succ]
        refine wpAnyH_take (i := 3) (oi := { dst := some 25, op := _, type := _, pos := _, after := _, guard := _ }) (v := ?v3x4) rfl (by kernel_rfl) (by kernel_rfl) (by kernel_rfl) (fun _ _ _ h => h) (Or.inl ⟨by rfl, ?hy3x4⟩) hHeld ?rest3x4
        case hy3x4 => (intro w hSw; go_simp <;> with_reducible rfl)
        try simp only [Act.put, List.setIfInBounds_toArray, List.set_cons_zero, List.set_cons_succ]
        refine wpAnyH_take (i := 5) (oi := { dst := some 27, op := _, type := _, pos := _, after := _, guard := _ }) (v := ?v3x5) rfl (by kernel_rfl) (by kernel_rfl) (by kernel_rfl) (fun _ _ _ h => h) (Or.inl ⟨by rfl, ?hy3x5⟩) hHeld ?rest3x5
        case hy3x5 => (intro w hSw; go_simp <;> with_reducible rfl)
        try simp only [Act.put, List.setIfInBounds_toArray, List.set_cons_zero, List.set_cons_succ]
        refine wpAnyH_ready (rs := [4, 6]) (by kernel_rfl) (by simp) (AllReadyH.cons (o := { dst := some 26, op := _, type := _, pos := _, after := _, guard := _ }) rfl (fun K hK => ?way3x6x4) (AllReadyH.cons (o := { dst := some 28, op := _, type := _, pos := _, after := _, guard := _ }) rfl (fun K hK => ?way3x6x6) AllReadyH.nil))
        case' way3x6x4 =>
          go_simp
          go_wp2_with fail
          refine hK.out _ _ ?_ (fun hHeld => ?_)
          · exact hHeld
          clear hK K
          try simp only [Act.put, List.setIfInBounds_toArray, List.set_cons_zero, List.set_cons_succ]
          refine wpAnyH_ready (rs := [6]) (by kernel_rfl) (by simp) (AllReadyH.cons (o := { dst := some 28, op := _, type := _, pos := _, after := _, guard := _ }) rfl (fun K hK => ?_) AllReadyH.nil)
          go_simp
          go_wp2_with fail
          refine hK.out _ _ ?_ (fun hHeld => ?_)
          · exact ⟨(HG.out.keep Hbel.out).cell 0, (HG.out.keep Hbel.out).cell 1⟩
          clear hK K
          try simp only [Act.put, List.setIfInBounds_toArray, List.set_cons_zero, List.set_cons_succ]
          refine wpAnyH_ready (rs := [7]) (by kernel_rfl) (by simp) (AllReadyH.cons (o := { dst := some 29, op := _, type := _, pos := _, after := _, guard := _ }) rfl (fun K hK => ?_) AllReadyH.nil)
          rw [if_pos (by rfl)]
          refine op_appS (.tmp 26) (.tmp 28) 25 rfl 59 _ 2 24 Try.underlying25 sub_info rfl (by decide) base S l.length ks (subVs l) rfl (ownS_keep HR.out Hbel.out) (some ⟨U1.heap.size, 0, none⟩) 1 1 (subVs [(f, 0)]) rfl Hrd.out (subVs_one _) (by unfold maxLen; omega) (by omega) (Nat.le_trans hbz Hbel.out.size) ?_
          intro A3 k3 w3 o3 b3 h3
          have hb3 : But (fun i => base ≤ i) U1 w3 := (But.ofBelow Hbel.out _).trans (b3.wide (fun i ⟨o, e⟩ => ownS_new HR.out i o e)) (fun _ _ e => e)
          have HG3 := (HG.out.keep Hbel.out).but b3 hSgs
          have hP3 := HP.out.but hb3 (by omega)
          have c17 := (Blk.p18 hP3).2.2.2.2.2.2.2.2.2.2.2.2.2.2.2.2.2
          have f17 := Blk.frozen hP3 17
          have HP3 := hide hP3
          have HS3 := hide (HS.out.but hb3 (by omega) (fun i hi => v.new i (Nat.le_trans hvb hi)))
          have O3 := hide o3
          have Hb3 := hide hb3
          have HG3 := hide HG3
          clear hP3 o3 hb3 b3 h3
          refine hK.out _ _ ?_ (fun hHeld => ?_)
          · exact ⟨HG3.out.cell 0, HG3.out.cell 1⟩
          clear hK K
          try simp only [Act.put, List.setIfInBounds_toArray, List.set_cons_zero, List.set_cons_succ]
          refine wpAnyH_take (i := 8) (oi := { dst := some 30, op := _, type := _, pos := _, after := _, guard := _ }) (v := ?v3x9) rfl (by kernel_rfl) (by kernel_rfl) (by kernel_rfl) (fun _ _ _ h => h) (Or.inl ⟨by rfl, ?hy3x9⟩) hHeld ?rest3x9
          case hy3x9 => (intro w hSw; go_simp <;> with_reducible rfl)
          try simp only [Act.put, List.setIfInBounds_toArray, List.set_cons_zero, List.set_cons_succ]
          refine wpAnyH_take (i := 9) (oi := { dst := some 31, op := _, type := _, pos := _, after := _, guard := _ }) (v := ?v3x10) rfl (by kernel_rfl) (by kernel_rfl) (by kernel_rfl) (fun _ _ _ h => h) (Or.inl ⟨by rfl, ?hy3x10⟩) hHeld ?rest3x10
          case hy3x10 => (intro w hSw; go_simp <;> with_reducible rfl)
          try simp only [Act.put, List.setIfInBounds_toArray, List.set_cons_zero, List.set_cons_succ]
          refine wpAnyH_ready (rs := [10]) (by kernel_rfl) (by simp) (AllReadyH.cons (o := { dst := none, op := _, type := _, pos := _, after := _, guard := _ }) rfl (fun K hK => ?_) AllReadyH.nil)
          go_simp
          go_wp2_with fail
          refine hK.out _ _ ?_ (fun hHeld => ?_)
          · exact ⟨(Blk.oth HG3.out (fun e => hgsp e.symm) _ _).cell 0, (Blk.oth HG3.out (fun e => hgsp e.symm) _ _).cell 1⟩
          clear hK K
          try simp only [Act.put, List.setIfInBounds_toArray, List.set_cons_zero, List.set_cons_succ]
          refine wpAnyH_done (by kernel_rfl) ?_ _
        case' way3x6x6 =>
          go_simp
          go_wp2_with fail
          refine hK.out _ _ ?_ (fun hHeld => ?_)
          · exact ⟨(HG.out.keep Hbel.out).cell 0, (HG.out.keep Hbel.out).cell 1⟩
          clear hK K
          try simp only [Act.put, List.setIfInBounds_toArray, List.set_cons_zero, List.set_cons_succ]
          refine wpAnyH_ready (rs := [4]) (by kernel_rfl) (by simp) (AllReadyH.cons (o := { dst := some 26, op := _, type := _, pos := _, after := _, guard := _ }) rfl (fun K hK => ?_) AllReadyH.nil)
          go_simp
          go_wp2_with fail
          refine hK.out _ _ ?_ (fun hHeld => ?_)
          · exact hHeld
          clear hK K
          try simp only [Act.put, List.setIfInBounds_toArray, List.set_cons_zero, List.set_cons_succ]
          refine wpAnyH_ready (rs := [7]) (by kernel_rfl) (by simp) (AllReadyH.cons (o := { dst := some 29, op := _, type := _, pos := _, after := _, guard := _ }) rfl (fun K hK => ?_) AllReadyH.nil)
          rw [if_pos (by rfl)]
          refine op_appS (.tmp 26) (.tmp 28) 25 rfl 59 _ 2 24 Try.underlying25 sub_info rfl (by decide) base S l.length ks (subVs l) rfl (ownS_keep HR.out Hbel.out) (some ⟨U1.heap.size, 0, none⟩) 1 1 (subVs [(f, 0)]) rfl Hrd.out (subVs_one _) (by unfold maxLen; omega) (by omega) (Nat.le_trans hbz Hbel.out.size) ?_
          intro A3 k3 w3 o3 b3 h3
          have hb3 : But (fun i => base ≤ i) U1 w3 := (But.ofBelow Hbel.out _).trans (b3.wide (fun i ⟨o, e⟩ => ownS_new HR.out i o e)) (fun _ _ e => e)
          have HG3 := (HG.out.keep Hbel.out).but b3 hSgs
          have hP3 := HP.out.but hb3 (by omega)
          have c17 := (Blk.p18 hP3).2.2.2.2.2.2.2.2.2.2.2.2.2.2.2.2.2
          have f17 := Blk.frozen hP3 17
          have HP3 := hide hP3
          have HS3 := hide (HS.out.but hb3 (by omega) (fun i hi => v.new i (Nat.le_trans hvb hi)))
          have O3 := hide o3
          have Hb3 := hide hb3
          have HG3 := hide HG3
          clear hP3 o3 hb3 b3 h3
          refine hK.out _ _ ?_ (fun hHeld => ?_)
          · exact ⟨HG3.out.cell 0, HG3.out.cell 1⟩
          clear hK K
          try simp only [Act.put, List.setIfInBounds_toArray, List.set_cons_zero, List.set_cons_succ]
          refine wpAnyH_take (i := 8) (oi := { dst := some 30, op := _, type := _, pos := _, after := _, guard := _ }) (v := ?v3x14) rfl (by kernel_rfl) (by kernel_rfl) (by kernel_rfl) (fun _ _ _ h => h) (Or.inl ⟨by rfl, ?hy3x14⟩) hHeld ?rest3x14
          case hy3x14 => (intro w hSw; go_simp <;> with_reducible rfl)
          try simp only [Act.put, List.setIfInBounds_toArray, List.set_cons_zero, List.set_cons_succ]
          refine wpAnyH_take (i := 9) (oi := { dst := some 31, op := _, type := _, pos := _, after := _, guard := _ }) (v := ?v3x15) rfl (by kernel_rfl) (by kernel_rfl) (by kernel_rfl) (fun _ _ _ h => h) (Or.inl ⟨by rfl, ?hy3x15⟩) hHeld ?rest3x15
          case hy3x15 => (intro w hSw; go_simp <;> with_reducible rfl)
          try simp only [Act.put, List.setIfInBounds_toArray, List.set_cons_zero, List.set_cons_succ]
          refine wpAnyH_ready (rs := [10]) (by kernel_rfl) (by simp) (AllReadyH.cons (o := { dst := none, op := _, type := _, pos := _, after := _, guard := _ }) rfl (fun K hK => ?_) AllReadyH.nil)
          go_simp
          go_wp2_with fail
          refine hK.out _ _ ?_ (fun hHeld => ?_)
          · exact ⟨(Blk.oth HG3.out (fun e => hgsp e.symm) _ _).cell 0, (Blk.oth HG3.out (fun e => hgsp e.symm) _ _).cell 1⟩
          clear hK K
          try simp only [Act.put, List.setIfInBounds_toArray, List.set_cons_zero, List.set_cons_succ]
          refine wpAnyH_done (by kernel_rfl) ?_ _
        all_goals
          clear hHeld c17 f17 g0 g1
          go_wp2_with fail
          refine ⟨⟨l ++ [(f, 0)], r1, K', A3, k3, by simp; omega, by omega, ?_, ?_, ?_, HS3.out.set hne hvp 17 _, by have := Hb3.out.size; simp; omega⟩, ?_⟩
          · rw [← HE.out]
            exact namE_step _ _ _ _ _
          · have h1 := ownS_but O3.out (But.setCell (S := fun i => i = gp) w3 (.slice A3 (l.length + 1) k3) rfl (i := 17)) (fun b o e h => by have := ownS_new O3.out b o e; have h' : b = gp := h; omega)
            rw [List.length_append, subVs_append]
            exact h1
          · rw [List.length_append]
            exact Blk.set HP3.out 17 _
          · have h1 := (HS3.out.set hne hvp 17 (.slice A3 (l.length + 1) k3)).pos
            have h2 := Hpos.out
            have h3 := Hm.out
            omega

end Go.Proofs.Ytdlhcecmodefkaa

namespace Go.Proofs.Ytdlhcecmodefkaa
set_option linter.unusedVariables false
set_option linter.unusedSimpArgs false
open Go.RowKit

set_option maxRecDepth 100000 in
set_option maxHeartbeats 4000000 in
theorem rrFields_any (t low : Nat) (v : Bs) (xs : List UInt8) (A : Option Addr) (n k g gp : Nat) (ys : List UInt8) (w : World) (hl : low < 16) (hb : RrB v xs A n k) (h : RrS v xs A n k g ys w) (hp : PkZ w gp (zeroP t)) (hne : ¬ gp = g) (hvp : v.S gp) : Calls Try.prog 94 #[.pointer (some ⟨g, 0, none⟩), .pointer (some ⟨gp, 0, none⟩), .int .i64 (low : Int)] w (FPost v xs A n k g gp (fieldsQ t low ys)) := by
  have HP := hide hp
  have HS := hide h
  obtain ⟨O, hO⟩ : ∃ O, fieldsQ t low ys = O := ⟨_, rfl⟩
  rw [hO]
  have HO := hide hO
  have c0 : w.cell? ⟨gp, 0, none⟩ = some (.int .i64 (t : Int)) := (Blk.p18 hp).1
  have f2 := HP.out.frozen 2
  clear h hp hO
  by_cases c1 : t = 1
  · subst c1
    have hO : conQ ys = O := by rw [← HO.out]; rfl
    go_enter Try.func94, Try.ntmps94
    go_wp2_with fail
    refine (rrConnect_any v xs A n k g gp ys w hb HS.out HP.out hne hvp).mono ?_
    rw [hO]
    clear HO hO
    intro e w1 hF
    cases O with
    | none =>
      obtain ⟨rfl, hv1⟩ := hF
      go_wp2_with fail
      all_goals exact ⟨rfl, rfl, hv1⟩
    | some z =>
      obtain ⟨rfl, hF⟩ := hF
      have HF := hide hF
      clear hF
      go_wp2_with fail
      go_end0
      exact ⟨rfl, HF.out⟩
  by_cases c2 : t = 2
  · subst c2
    have hO : welQ ys = O := by rw [← HO.out]; rfl
    go_enter Try.func94, Try.ntmps94
    go_wp2_with fail
    refine (rrWelcome_any v xs A n k g gp ys w hb HS.out HP.out hne hvp).mono ?_
    rw [hO]
    clear HO hO
    intro e w1 hF
    cases O with
    | none =>
      obtain ⟨rfl, hv1⟩ := hF
      go_wp2_with fail
      all_goals exact ⟨rfl, rfl, hv1⟩
    | some z =>
      obtain ⟨rfl, hF⟩ := hF
      have HF := hide hF
      clear hF
      go_wp2_with fail
      go_end0
      exact ⟨rfl, HF.out⟩
  by_cases c3 : t = 3
  · subst c3
    have hO : pubQ low ys = O := by rw [← HO.out]; rfl
    go_enter Try.func94, Try.ntmps94
    go_wp2_with fail
    refine (rrPublish_any v xs A n k g gp low ys w hl hb HS.out HP.out hne hvp).mono ?_
    rw [hO]
    clear HO hO
    intro e w1 hF
    cases O with
    | none =>
      obtain ⟨rfl, hv1⟩ := hF
      go_wp2_with fail
      all_goals exact ⟨rfl, rfl, hv1⟩
    | some z =>
      obtain ⟨rfl, hF⟩ := hF
      have HF := hide hF
      clear hF
      go_wp2_with fail
      go_end0
      exact ⟨rfl, HF.out⟩
  by_cases c4 : t = 4 ∨ t = 5 ∨ t = 6 ∨ t = 7 ∨ t = 11
  · have hO : ackQ t ys = O := by rw [← HO.out]; unfold fieldsQ; rw [if_neg c1, if_neg c2, if_neg c3, if_pos c4]
    unfold ackQ at hO
    have HO := hide hO
    have P1 := rrWord_any v xs A n k g ys w hb HS.out
    clear hO
    cases hq1 : qW ys with
    | none =>
      have h0 : O = none := by rw [← HO.out, hq1]; rfl
      have P1 := hide (RrPost.no P1 hq1)
      clear c1 c2 c3 hq1
      rw [h0]
      rcases c4 with rfl | rfl | rfl | rfl | rfl
      all_goals
        go_enter Try.func94, Try.ntmps94
        go_wp2_with fail
        refine P1.out.mono ?_
        rintro e w1 ⟨rfl, hv1⟩
        go_wp2_with fail
        all_goals first | exact ⟨rfl, rfl, hv1⟩ | exact ⟨rfl, by rw [h0]; exact ⟨rfl, hv1⟩⟩
    | some z =>
      obtain ⟨d, y2⟩ := z
      have h0 : O = some ({ zeroP t with id := (d : Int) }, y2) := by rw [← HO.out, hq1]; rfl
      have P1 := hide (RrPost.ok P1 hq1)
      have H0 := hide h0
      clear c1 c2 c3 hq1 h0
      rcases c4 with rfl | rfl | rfl | rfl | rfl
      all_goals
        go_enter Try.func94, Try.ntmps94
        go_wp2_with fail
        refine P1.out.mono ?_
        rintro e w1 ⟨rfl, s1, b1⟩
        have HP := hide (HP.out.but b1 hne)
        have c2 := (Blk.p18 HP.out).2.2.1
        have f2 := HP.out.frozen 2
        go_wp2_with fail
        go_end0
        rw [H0.out]
        exact ⟨rfl, s1.set hne hvp 2 _, none, 0, 0, none, 0, 0, Blk.set HP.out 2 _, NewAt.nil _, NewAt.nil _, rfl, Nat.le_refl _, Rd.nil _ _, rfl, Nat.le_refl _, Rd.nil _ _⟩
  by_cases c8 : t = 8
  · subst c8
    have hO : namQ 8 true ys = O := by rw [← HO.out]; rfl
    go_enter Try.func94, Try.ntmps94
    go_wp2_with fail
    refine (rrNames_any 8 true v xs A n k g gp ys w hb HS.out HP.out hne hvp).mono ?_
    rw [hO]
    clear HO hO
    intro e w1 hF
    cases O with
    | none =>
      obtain ⟨rfl, hv1⟩ := hF
      go_wp2_with fail
      all_goals exact ⟨rfl, rfl, hv1⟩
    | some z =>
      obtain ⟨rfl, hF⟩ := hF
      have HF := hide hF
      clear hF
      go_wp2_with fail
      go_end0
      exact ⟨rfl, HF.out⟩
  by_cases c9 : t = 9
  · subst c9
    have hO : codQ ys = O := by rw [← HO.out]; rfl
    go_enter Try.func94, Try.ntmps94
    go_wp2_with fail
    refine (rrCodes_any v xs A n k g gp ys w hb HS.out HP.out hne hvp).mono ?_
    rw [hO]
    clear HO hO
    intro e w1 hF
    cases O with
    | none =>
      obtain ⟨rfl, hv1⟩ := hF
      go_wp2_with fail
      all_goals exact ⟨rfl, rfl, hv1⟩
    | some z =>
      obtain ⟨rfl, hF⟩ := hF
      have HF := hide hF
      clear hF
      go_wp2_with fail
      go_end0
      exact ⟨rfl, HF.out⟩
  by_cases c10 : t = 10
  · subst c10
    have hO : namQ 10 false ys = O := by rw [← HO.out]; rfl
    go_enter Try.func94, Try.ntmps94
    go_wp2_with fail
    refine (rrNames_any 10 false v xs A n k g gp ys w hb HS.out HP.out hne hvp).mono ?_
    rw [hO]
    clear HO hO
    intro e w1 hF
    cases O with
    | none =>
      obtain ⟨rfl, hv1⟩ := hF
      go_wp2_with fail
      all_goals exact ⟨rfl, rfl, hv1⟩
    | some z =>
      obtain ⟨rfl, hF⟩ := hF
      have HF := hide hF
      clear hF
      go_wp2_with fail
      go_end0
      exact ⟨rfl, HF.out⟩
  have hO : some (zeroP t, ys) = O := by rw [← HO.out]; unfold fieldsQ; rw [if_neg c1, if_neg c2, if_neg c3, if_neg c4, if_neg c8, if_neg c9, if_neg c10]
  have H0 := hide hO
  have q1 : ((t : Int) == 1) = false := by simp; omega
  have q2 : ((t : Int) == 2) = false := by simp; omega
  have q3 : ((t : Int) == 3) = false := by simp; omega
  have q4 : ((t : Int) == 4) = false := by simp; omega
  have q5 : ((t : Int) == 5) = false := by simp; omega
  have q6 : ((t : Int) == 6) = false := by simp; omega
  have q7 : ((t : Int) == 7) = false := by simp; omega
  have q11 : ((t : Int) == 11) = false := by simp; omega
  have q8 : ((t : Int) == 8) = false := by simp; omega
  have q9 : ((t : Int) == 9) = false := by simp; omega
  have q10 : ((t : Int) == 10) = false := by simp; omega
  clear hO c1 c2 c3 c4 c8 c9 c10
  go_enter Try.func94, Try.ntmps94
  go_wp2_with fail
  go_end0
  rw [← H0.out]
  exact ⟨rfl, HS.out, none, 0, 0, none, 0, 0, HP.out, NewAt.nil _, NewAt.nil _, rfl, Nat.le_refl _, Rd.nil _ _, rfl, Nat.le_refl _, Rd.nil _ _⟩

end Go.Proofs.Ytdlhcecmodefkaa

namespace Go.Proofs.Ytdlhcecmodefkaa
set_option linter.unusedVariables false
set_option linter.unusedSimpArgs false
open Go.RowKit

/-- What the reading of a whole packet comes to. -/
def KPost (v : Bs) (o : Option Pk) (e : Ending) (w' : World) : Prop := match o with
  | none => e = .panicked gvP ∧ But v.S v.v w'
  | some p => ∃ C nc kc S ns ks, e = .returned (pkA p C nc kc S ns ks) ∧ NewAt v.v C ∧ NewAt v.v S ∧ PkM w' p C nc kc S ns ks ∧ But v.S v.v w'

theorem fieldsQ_qos {t low : Nat} {ys : List UInt8} {z : Pk × List UInt8} (h : fieldsQ t low ys = some z) : z.1.ty = 3 → 0 ≤ z.1.qos ∧ z.1.qos ≤ 3 := by
  unfold fieldsQ at h
  split at h
  · rename_i h1
    intro h3
    have := (conQ_some h).2
    omega
  split at h
  · intro h3
    unfold welQ at h
    obtain ⟨a, ha, h⟩ := Option.bind_eq_some_iff.1 h
    split at h
    · obtain ⟨c, hc, h⟩ := Option.bind_eq_some_iff.1 h
      injection h with h
      subst h
      have e : (2 : Int) = 3 := h3
      omega
    · cases h
  split at h
  · intro _
    unfold pubQ at h
    obtain ⟨a, ha, h⟩ := Option.bind_eq_some_iff.1 h
    obtain ⟨c, hc, h⟩ := Option.bind_eq_some_iff.1 h
    injection h with h
    subst h
    show (0 : Int) ≤ ((low / 2 % 4 : Nat) : Int) ∧ ((low / 2 % 4 : Nat) : Int) ≤ 3
    omega
  split at h
  · rename_i h4
    intro h3
    unfold ackQ at h
    obtain ⟨c, hc, h⟩ := Option.bind_eq_some_iff.1 h
    injection h with h
    subst h
    have e : (t : Int) = 3 := h3
    omega
  have nam : ∀ (t : Nat) (q : Bool), ¬ t = 3 → namQ t q ys = some z → z.1.ty = 3 → 0 ≤ z.1.qos ∧ z.1.qos ≤ 3 := by
    intro t q ht h h3
    unfold namQ at h
    obtain ⟨i, hi, h⟩ := Option.bind_eq_some_iff.1 h
    obtain ⟨l, hl, h⟩ := Option.bind_eq_some_iff.1 h
    injection h with h
    subst h
    have e : (t : Int) = 3 := h3
    omega
  split at h
  · exact nam 8 true (by decide) h
  split at h
  · intro h3
    unfold codQ at h
    obtain ⟨c, hc, h⟩ := Option.bind_eq_some_iff.1 h
    injection h with h
    subst h
    have e : (9 : Int) = 3 := h3
    omega
  split at h
  · exact nam 10 false (by decide) h
  · rename_i n3 _ _ _ _
    intro h3
    injection h with h
    subst h
    have e : (t : Int) = 3 := h3
    omega

theorem RrS.up {v v2 : Bs} {w : World} {xs : List UInt8} {A : Option Addr} {n k g : Nat} {ys : List UInt8} (h : RrS v2 xs A n k g ys w) (b : But v.S v.v v2.v) (hs : ∀ i, v2.S i → v.S i) : RrS v xs A n k g ys w := by
  obtain ⟨i, hB, hi, hd, hg, hv⟩ := h
  exact ⟨i, hB, hi, hd, hs g hg, b.trans hv (fun j _ e => hs j e)⟩
theorem RrS.S {v : Bs} {w : World} {xs : List UInt8} {A : Option Addr} {n k g : Nat} {ys : List UInt8} (h : RrS v xs A n k g ys w) : v.S g := by
  obtain ⟨i, hB, hi, hd, hg, hv⟩ := h
  exact hg

set_option maxRecDepth 100000 in
set_option maxHeartbeats 4000000 in
theorem rrPacket_any (v : Bs) (xs : List UInt8) (A : Option Addr) (n k g : Nat) (w : World) (hb : RrB v xs A n k) (h : RrS v xs A n k g xs w) : Calls Try.prog 75 #[.pointer (some ⟨g, 0, none⟩)] w (KPost v (readQ xs)) := by
  obtain ⟨O, hO⟩ : ∃ O, readQ xs = O := ⟨_, rfl⟩
  rw [hO]
  unfold readQ at hO
  have HO := hide hO
  have HS := hide h
  have hwz := h.low.size
  clear h hO
  go_enter Try.func75, Try.ntmps75
  go_wp2_with fail
  obtain ⟨g1, hg1⟩ : ∃ g1, w.heap.size = g1 := ⟨_, rfl⟩
  generalize hW : w.alloc _ = V1
  have hz : w.alloc (.cells (arr (pkVs (zeroP 0) none 0 0 none 0 0)) 27) = V1 := hW
  have HZ := hide (show Blk V1 g1 27 (pkVs (zeroP 0) none 0 0 none 0 0) from by rw [← hz, ← hg1]; exact Blk.new w _ _)
  have HS := hide (HS.out.keep (show Below w.heap.size w V1 from by rw [← hz]; exact (Below.refl _ _).alloc (Nat.le_refl _) _))
  rw [hg1]
  have hgg : ¬ g1 = g := by
    intro e
    obtain ⟨i, hB, -⟩ := HS.out
    have h2 := HZ.out
    rw [e] at h2
    have := hB.symm.trans h2
    simp [arr, pkVs] at this
  have HG1 := hide (show v.v.heap.size ≤ g1 from by rw [← hg1]; exact hwz)
  clear hW hz hg1
  have P1 := rrOctet_any v xs A n k g xs V1 hb HS.out
  cases hq1 : qB xs with
  | none =>
    have h0 : O = none := by rw [← HO.out, hq1]; rfl
    refine (RrPost.no P1 hq1).mono ?_
    rintro e w1 ⟨rfl, hv1⟩
    go_wp2_with fail
    all_goals first | exact ⟨rfl, rfl, hv1⟩ | exact ⟨rfl, by rw [h0]; exact ⟨rfl, hv1⟩⟩
  | some z =>
  obtain ⟨first, y1⟩ := z
  have hf := (qB_some hq1).2
  have hxs := (qB_some hq1).1
  simp only at hf hxs
  have hy1 : y1 = xs.drop 1 := by rw [hxs]; rfl
  have hn1 : 1 ≤ n := by have := hb.1; rw [hxs] at this; simp at this; omega
  rw [hq1] at HO
  simp only [Option.bind_some] at HO
  refine (RrPost.ok P1 hq1).mono ?_
  rintro e w1 ⟨rfl, s1, b1⟩
  subst hy1
  have HZ := hide (HZ.out.but b1 (by simpa using hgg))
  have HS := hide s1
  clear s1 b1 P1 hq1 hxs
  go_wp2_with fail
  have P1 := rrLen_any v xs A n k g w1 hb hn1 HS.out
  by_cases hat : (atR xs 1).2.2 = 0
  case neg =>
    have h0 : O = none := by rw [← HO.out, if_pos hat]
    have hq : lenQ xs = none := by unfold lenQ; rw [if_neg hat]
    refine (RrPost.no P1 hq).mono ?_
    rintro e w1 ⟨rfl, hv1⟩
    go_wp2_with fail
    all_goals first | exact ⟨rfl, rfl, hv1⟩ | exact ⟨rfl, by rw [h0]; exact ⟨rfl, hv1⟩⟩
  case pos =>
  have hq : lenQ xs = some ((atR xs 1).1, xs.drop (atR xs 1).2.1) := by unfold lenQ; rw [if_pos hat]
  rw [if_neg (by omega)] at HO
  have P1 := RrPost.ok P1 hq
  generalize (atR xs 1).1 = X at *
  generalize xs.drop (atR xs 1).2.1 = zs at *
  clear hat hq
  refine P1.mono ?_
  rintro e w2 ⟨rfl, s1, b1⟩
  have HZ := hide (HZ.out.but b1 (by simpa using hgg))
  have HS := hide s1
  clear s1 b1 P1
  go_wp2_with fail
  refine (rrLeft_any v xs A n k g zs w2 hb HS.out).mono ?_
  rintro e w3 ⟨rfl, s1, b1⟩
  have HZ := hide (HZ.out.but b1 (by simpa using hgg))
  have HS := hide s1
  clear s1 b1
  by_cases hx : X = zs.length
  case neg =>
    have h0 : O = none := by rw [← HO.out, if_pos hx]
    have q1 : ((X : Int) == (zs.length : Int)) = false := by simp; omega
    have hv1 := HS.out.low
    go_wp2_with fail
    refine (must_no _ _).mono ?_
    rintro e w2 ⟨rfl, rfl⟩
    go_wp2_with fail
    all_goals first | exact ⟨rfl, rfl, hv1⟩ | exact ⟨rfl, by rw [h0]; exact ⟨rfl, hv1⟩⟩
  case pos =>
  rw [if_neg (by omega)] at HO
  have q1 : ((X : Int) == (zs.length : Int)) = true := by simp; omega
  go_wp2_with fail
  refine (must_ok _ _).mono ?_
  rintro e w4 ⟨rfl, rfl⟩
  clear hx q1
  obtain ⟨t, ht⟩ : ∃ t, first / 16 = t := ⟨_, rfl⟩
  obtain ⟨low, hlow⟩ : ∃ low, first % 16 = low := ⟨_, rfl⟩
  have e1 : (first : Int) / 16 = (t : Int) := by omega
  have e2 : (first : Int) % 16 = (low : Int) := by omega
  have hl16 : low < 16 := by omega
  rw [ht, hlow] at HO
  clear ht hlow
  go_upto_region 5 with (refine wpList_storeP rfl 27 (.tmp 5) (.tmp 19) rfl w3.heap.size 27 (zeroP 0) none 0 0 none 0 0 (zeroP t) none 0 0 none 0 0 rfl rfl (Blk.new w3 27 (pkVs (zeroP 0) none 0 0 none 0 0)) (by kernel_rfl) ?_; intro V3 bV BV)
  have bw : Below w3.heap.size w3 V3 := BV w3.heap.size w3 (Nat.le_refl _) ((Below.refl _ _).alloc (Nat.le_refl _) _)
  obtain ⟨gp, hgp⟩ : ∃ gp, w3.heap.size = gp := ⟨_, rfl⟩
  have hgl : g < gp := by rw [← hgp]; exact HS.out.lt
  have hg1l : g1 < gp := by rw [← hgp]; exact HZ.out.lt
  have hvp : v.S gp := v.new gp (by rw [← hgp]; exact HS.out.low.size)
  have HZ := hide (HZ.out.keep bw)
  have HS := hide (HS.out.keep bw)
  rw [hgp] at bV ⊢
  have HP := hide (show PkZ V3 gp (zeroP t) from bV)
  have hVl : gp < V3.heap.size := HP.out.lt
  clear bw BV bV hgp
  have hvg := HS.out.S
  obtain ⟨v2, hv2⟩ : ∃ v2 : Bs, v2 = ⟨V3, fun i => i = g ∨ i = gp ∨ V3.heap.size ≤ i, fun i h => .inr (.inr h)⟩ := ⟨_, rfl⟩
  have hs2 : ∀ i, v2.S i → v.S i := by
    subst hv2
    intro i hi
    rcases hi with rfl | rfl | hi
    · exact hvg
    · exact hvp
    · exact v.new i (Nat.le_trans HS.out.low.size hi)
  have hsg : v2.S g := by subst hv2; exact .inl rfl
  have hsp : v2.S gp := by subst hv2; exact .inr (.inl rfl)
  have hs1 : ¬ v2.S g1 := by
    subst hv2
    rintro (h | h | h)
    · exact hgg h
    · omega
    · have h' : V3.heap.size ≤ g1 := h
      omega
  have hb2 : RrB v2 xs A n k := ⟨hb.1, hb.2.1, hb.2.2.1, by subst hv2; exact hb.rd HS.out.low, fun h0 => (hb.2.2.2.2 h0).mono hs2⟩
  have hS2 : RrS v2 xs A n k g zs V3 := by
    obtain ⟨i, hB, hi, hd, -, -⟩ := HS.out
    exact ⟨i, hB, hi, hd, hsg, by subst hv2; exact But.refl _ _⟩
  have hvv : But v.S v.v v2.v := by subst hv2; exact HS.out.low
  have hz2 : gp < v2.v.heap.size := by subst hv2; exact hVl
  have hz1 : g1 < v2.v.heap.size := by subst hv2; exact HZ.out.lt
  have hZ2 : Blk v2.v g1 27 (pkVs (zeroP 0) none 0 0 none 0 0) := by subst hv2; exact HZ.out
  have PF := hide (rrFields_any t low v2 xs A n k g gp zs V3 hl16 hb2 hS2 HP.out (by omega) hsp)
  have HV := hide hvv
  have HS2 := hide hs2
  have HZ := hide hZ2
  have Hb2 := hide hb2
  have Hs1 := hide hs1
  clear hv2 hvv hs2 hZ2 hb2 hS2 hs1
  go_wp2_with fail
  refine PF.out.mono ?_
  cases hF : fieldsQ t low zs with
  | none =>
    have h0 : O = none := by rw [← HO.out, hF]; rfl
    rintro e w5 ⟨rfl, hv5⟩
    have hv1 : But v.S v.v w5 := HV.out.trans hv5 (fun i _ e => HS2.out i e)
    clear hv5
    go_wp2_with fail
    all_goals first | exact ⟨rfl, rfl, hv1⟩ | exact ⟨rfl, by rw [h0]; exact ⟨rfl, hv1⟩⟩
  | some z =>
  obtain ⟨p, rest⟩ := z
  have hqos := fieldsQ_qos hF
  rw [hF] at HO
  simp only [Option.bind_some] at HO
  rintro e w5 ⟨rfl, s5, C, nc, kc, S, ns, ks, hP5, hC5, hS5, hM5⟩
  have hC : ∀ i, i ≤ gp → Off (fun j => j = i) C := fun i hi b o e h => by have := hC5 b o e; have h' : b = i := h; omega
  have hS : ∀ i, i ≤ gp → Off (fun j => j = i) S := fun i hi b o e h => by have := hS5 b o e; have h' : b = i := h; omega
  have HZ := hide (HZ.out.but s5.low Hs1.out)
  have HS := hide (s5.up HV.out HS2.out)
  have HP := hide hP5
  have HM := hide hM5
  have HC := hide (hC g1 (by omega))
  have HSS := hide (hS g1 (by omega))
  have HN := hide (And.intro (hC5.old HV.out.size) (hS5.old HV.out.size))
  clear PF hF s5 hP5 hM5 hC5 hS5 hC hS
  go_wp2_with fail
  refine (rrLeft_q v xs A n k g rest w5 hb HS.out).mono ?_
  rintro e w6 ⟨rfl, nq, hw6⟩
  have HZ := hide (show Blk w6 g1 27 (pkVs (zeroP 0) none 0 0 none 0 0) from by rw [hw6]; exact HZ.out.drewN nq)
  have HP := hide (show Blk w6 gp 27 (pkVs p C nc kc S ns ks) from by rw [hw6]; exact HP.out.drewN nq)
  have HM := hide (show PkM w6 p C nc kc S ns ks from by rw [hw6]; exact HM.out)
  have hv1 : But v.S v.v w6 := by rw [hw6]; exact HS.out.low.drewN nq
  clear hw6
  obtain ⟨m, hm⟩ : ∃ m, rest.length = m := ⟨_, rfl⟩
  rw [hm]
  by_cases hm0 : m = 0
  case neg =>
    have h0 : O = none := by rw [← HO.out]; unfold endQ; rw [if_neg (fun h => by have := h.1; simp only at this; rw [this] at hm; exact hm0 hm.symm)]
    have q1 : ((m : Int) == 0) = false := by simp; omega
    go_wp2_with fail
    refine (must_no _ _).mono ?_
    rintro e w2 ⟨rfl, rfl⟩
    go_wp2_with fail
    all_goals first | exact ⟨rfl, rfl, hv1⟩ | exact ⟨rfl, by rw [h0]; exact ⟨rfl, hv1⟩⟩
  case pos =>
  subst hm0
  have hr : rest = [] := List.length_eq_zero_iff.1 hm
  subst hr
  have PG := hide (flags_p p C nc kc S ns ks w6 (fun h => (hqos h).1) (fun h => (hqos h).2))
  go_upto_region 8 with (refine wpList_loadPg (by rfl) 27 (.tmp 5) rfl gp 27 p C nc kc S ns ks rfl HP.out Try.underlying27 rfl (by kernel_rfl) ?_)
  refine PG.out.mono ?_
  rintro e w7 ⟨rfl, b7⟩
  have HZ := hide (HZ.out.keep b7)
  have HP := hide (HP.out.keep b7)
  have HM := hide (HM.out.keep b7)
  have hv1 := hv1.on b7
  clear b7 PG
  by_cases hfl : flagsP p = low
  case neg =>
    have h0 : O = none := by rw [← HO.out]; unfold endQ; rw [if_neg (fun h => hfl h.2)]
    have q1 : ((flagsP p : Int) == (low : Int)) = false := by simp; omega
    go_wp2_with fail
    refine (must_no _ _).mono ?_
    rintro e w2 ⟨rfl, rfl⟩
    go_wp2_with fail
    all_goals first | exact ⟨rfl, rfl, hv1⟩ | exact ⟨rfl, by rw [h0]; exact ⟨rfl, hv1⟩⟩
  case pos =>
  have q1 : ((flagsP p : Int) == (low : Int)) = true := by simp; omega
  have h0 : O = some p := by rw [← HO.out]; unfold endQ; rw [if_pos ⟨rfl, hfl⟩]
  have H0 := hide h0
  clear h0
  go_wp2_with fail
  refine (must_ok _ _).mono ?_
  rintro e w8 ⟨rfl, rfl⟩
  go_upto_region 99 with (first
    | (refine wpList_loadP rfl 27 (.tmp 5) rfl gp 27 p C nc kc S ns ks rfl HP.out Try.underlying27 rfl (by kernel_rfl) ?_)
    | (refine wpList_storeQ rfl 27 (.tmp 2) (.tmp 36) rfl g1 27 (zeroP 0) none 0 0 none 0 0 p C nc kc S ns ks rfl rfl HZ.out (by kernel_rfl) ?_; intro V bV BV))
  refine bodyPost_ret (results_cell rfl rfl bV Try.underlying27 rfl (by kernel_rfl)) rfl ?_
  rw [H0.out]
  obtain ⟨m1, m2, m3, m4, m5, m6⟩ := HM.out
  exact ⟨C, nc, kc, S, ns, ks, rfl, HN.out.1, HN.out.2, ⟨m1, m2, m3.but BV HC.out, m4, m5, m6.but BV HSS.out⟩, hv1.trans BV (fun i hi e => by have h1 := hv1.size; exact absurd hi (by rw [e]; have := HG1.out; omega))⟩

end Go.Proofs.Ytdlhcecmodefkaa

namespace Go.Proofs.Ytdlhcecmodefkaa
set_option linter.unusedVariables false
set_option linter.unusedSimpArgs false
open Go.RowKit

theorem ta_hit (X : TypeId) (w : World) : (Instr.typeAssert (.iface 90 (.int .i64 100)) X 90 true).run Try.prog w = .ok (.tuple #[.int .i64 100, .bool true]) w := by
  simp [Instr.typeAssert, go_sem, Try.underlying90]
theorem ta_nil (X : TypeId) (w : World) : (Instr.typeAssert .nilIface X 90 true).run Try.prog w = .ok (.tuple #[.int .i64 0, .bool false]) w := by
  simp [Instr.typeAssert, go_sem, Try.underlying90]

theorem catch_gave (p : Addr) (x : Int) (older : List PanicEntry) (w : World) (hc : w.cell? p = some (.int .i64 x)) (hz : w.frozen? p = false) :
    CallsD Try.prog 74 #[.pointer (some p)] (.panicking ({ v := .iface 90 (.int .i64 100), recovered := false } :: older)) w fun e u' w' =>
      e = .returned (.tuple #[]) ∧ u' = .panicking ({ v := .iface 90 (.int .i64 100), recovered := true } :: older) ∧ w' = w.setCell p (.int .i64 100) := by
  refine callsD_of_wpS Try.func74 rfl fun c₀ cs hu => ?_
  apply wpS_seq
  apply wpS_region
  simp [wpOpsS, go_sem, recoverD, hu, Try.ntmps74, Exit.thenS, ta_hit]
  apply wpS_seq
  apply wpS_region
  simp [wpOpsS, go_sem, Exit.thenS, Array.replicate]
  refine wpS_cond (t := true) (by simp [Act.eval]) ?_
  simp only [if_true]
  apply wpS_region
  simp [wpOpsS, go_sem, hc, hz, bodyPostS, results, Try.results74]
theorem catch_idle (p : Addr) (w : World) :
    CallsD Try.prog 74 #[.pointer (some p)] .returning w fun e u' w' => e = .returned (.tuple #[]) ∧ u' = .returning ∧ w' = w := by
  refine callsD_of_wpS Try.func74 rfl fun c₀ cs hu => ?_
  apply wpS_seq
  apply wpS_region
  simp [wpOpsS, go_sem, recoverD, hu, Try.ntmps74, Exit.thenS, ta_nil]
  apply wpS_seq
  apply wpS_region
  simp [wpOpsS, go_sem, Exit.thenS, Array.replicate]
  refine wpS_cond (t := false) (by simp [Act.eval]) ?_
  simp only [Bool.false_eq_true, if_false]
  refine wpS_of_wp (wp_skip ?_)
  cases c₀
  simp_all [bodyPostS, results, Try.results74]

/-- Two results that are variables of their own: a packet and a number. -/
theorem results_cells2 {P : Program} {fn : Func} {a b : Tmp} {t u : TypeId} (h : fn.results = #[.cell a t, .cell b u]) {tmps : Array Value} {w : World} {g : Nat} {bt : TypeId} {cs : List Value} {q : Addr} {x : Value} (ha : tmps.getD a undef = .pointer (some ⟨g, 0, none⟩)) (hb : tmps.getD b undef = .pointer (some q)) (hB : Blk w g bt cs)
    {d : TypeDesc} (hu : P.underlying t = some d) (hd : d.isRow = true) (hi : (P.info? t).map (·.size) = some cs.length) (hag : ∀ W, (isAgg u).run P W = .ok false W) (hx : w.cell? q = some x) : (results fn tmps).run P w = .ok (.tuple #[.agg cs.toArray, x]) w := by
  have hl := run_loadVar_mid (P := P) w g 0 t cs d hB.range hu hd hi
  rw [Array.getD_eq_getD_getElem?] at ha hb
  have hl2 : (loadVar u q).run P w = .ok x w := by simp [loadVar, hag, go_sem, hx]
  simp [results, h, ha, hb, asAddr, hl, hl2]

/-- What 'read' returns. -/
def RdPost (o : Option Pk) (w : World) (e : Ending) (w' : World) : Prop := match o with
  | none => e = .returned (.tuple #[pkA (zeroP 0) none 0 0 none 0 0, .int .i64 100]) ∧ Below w.heap.size w w'
  | some p => ∃ C nc kc S ns ks, e = .returned (.tuple #[pkA p C nc kc S ns ks, .int .i64 0]) ∧ NewAt w C ∧ NewAt w S ∧ PkM w' p C nc kc S ns ks ∧ Below w.heap.size w w'

set_option maxRecDepth 100000 in
set_option maxHeartbeats 4000000 in
theorem pkRead_any (A : Option Addr) (n k : Nat) (xs : List UInt8) (w : World) (hR : Rd w A n (bv xs)) (hx : xs.length = n) (hk : n ≤ k) (h65 : n ≤ 65535) : Calls Try.prog 40 #[.slice A n k] w (RdPost (readQ xs) w) := by
  have hmf : ∀ (fn : Fn) (first cap : Array Value) (w : World), (Instr.makeFunc fn first cap).run Try.prog w = .ok (.func fn first cap) w := fun _ _ _ _ => rfl
  go_enter_defers Try.func40, Try.ntmps40
  go_wp2_with fail
  obtain ⟨W, hW⟩ : ∃ W, ((w.alloc (.cells (arr (pkVs (zeroP 0) none 0 0 none 0 0)) 27)).alloc (.cells #[.int .i64 0] 29)).alloc (.cells #[.slice A n k, .int .i64 0] 94) = W := ⟨_, rfl⟩
  have bW : Below w.heap.size w W := by rw [← hW]; exact (((Below.refl _ _).alloc (Nat.le_refl _) _).alloc (by simp) _).alloc (by simp; omega) _
  have zA : Blk W w.heap.size 27 (pkVs (zeroP 0) none 0 0 none 0 0) := by rw [← hW]; exact ((Blk.new w 27 _).al _).al _
  have zB : Blk W (w.heap.size + 1) 29 [.int .i64 0] := by
    rw [← hW]
    have := Blk.new (w.alloc (.cells (arr (pkVs (zeroP 0) none 0 0 none 0 0)) 27)) 29 [.int .i64 0]
    rw [World.size_alloc] at this
    exact this.al _
  have zC : Blk W (w.heap.size + 1 + 1) 94 [.slice A n k, .int .i64 0] := by
    rw [← hW]
    have := Blk.new ((w.alloc (.cells (arr (pkVs (zeroP 0) none 0 0 none 0 0)) 27)).alloc (.cells #[.int .i64 0] 29)) 94 [.slice A n k, .int .i64 0]
    rw [World.size_alloc, World.size_alloc] at this
    exact this
  have hWz : W.heap.size = w.heap.size + 1 + 1 + 1 := by rw [← hW]; simp
  have hw2 : (((w.alloc (.cells #[.int .i64 0, .bool false, .int .i64 0, .string ⟨#[]⟩, .string ⟨#[]⟩, .int .i64 0, .bool false, .string ⟨#[]⟩, .bool false, .int .i64 0, .bool false, .bool false, .bool false, .string ⟨#[]⟩, .string ⟨#[]⟩, .bool false, .slice none 0 0, .slice none 0 0] 27)).alloc (.cells #[.int .i64 0] 29)).alloc (.cells #[.slice A n k, .int .i64 0] 94)) = W := hW
  rw [hw2]
  clear hw2 hW
  obtain ⟨gA, hgA⟩ : ∃ gA, w.heap.size = gA := ⟨_, rfl⟩
  rw [hgA] at zA zB zC hWz bW ⊢
  obtain ⟨gB, hgB⟩ : ∃ gB, gA + 1 = gB := ⟨_, rfl⟩
  rw [hgB] at zB zC hWz ⊢
  obtain ⟨gC, hgC⟩ : ∃ gC, gB + 1 = gC := ⟨_, rfl⟩
  rw [hgC] at zC hWz ⊢
  have nAB : ¬ gA = gB := by omega
  have nAC : ¬ gA = gC := by omega
  have nBC : ¬ gB = gC := by omega
  obtain ⟨v, hv⟩ : ∃ v : Bs, v = ⟨W, fun i => i = gC ∨ W.heap.size ≤ i, fun i h => .inr h⟩ := ⟨_, rfl⟩
  have hb : RrB v xs A n k := ⟨hx, hk, h65, by subst hv; exact hR.keep (by rw [hgA]; exact bW), fun h0 b o e h => by
    obtain ⟨b', o', e', hl, -⟩ := hR.2 h0
    subst hv
    rw [e] at e'
    injection e' with e'
    injection e' with e1
    rcases h with h | h <;> omega⟩
  have hS : RrS v xs A n k gC xs W := ⟨0, zC, by omega, rfl, by subst hv; exact .inl rfl, by subst hv; exact But.refl _ _⟩
  have PK := rrPacket_any v xs A n k gC W hb hS
  have hkeep : ∀ w1, But v.S v.v w1 → Blk w1 gA 27 (pkVs (zeroP 0) none 0 0 none 0 0) ∧ Blk w1 gB 29 [.int .i64 0] ∧ Below gA w w1 := by
    intro w1 h1
    subst hv
    refine ⟨zA.but h1 ?_, zB.but h1 ?_, But.below bW h1 ?_ (by omega)⟩
    · rintro (h | h)
      · exact nAC h
      · omega
    · rintro (h | h)
      · exact nBC h
      · omega
    · rintro i (h | h) <;> omega
  have HK := hide hkeep
  have hAB : gA ≤ gB := by omega
  have hwv : w.heap.size ≤ v.v.heap.size := by subst hv; simp only; omega
  have hAv : gA < v.v.heap.size := by subst hv; exact zA.lt
  have hBv : gB < v.v.heap.size := by subst hv; exact zB.lt
  have HgA := hide hgA
  clear hv hb hS zA zB zC bW hR hkeep hgA hgB hgC nAC nBC hWz
  refine PK.mono ?_
  cases hq : readQ xs with
  | none =>
    rintro e w1 ⟨rfl, hv1⟩
    obtain ⟨zA, zB, b1⟩ := HK.out w1 hv1
    go_wp2_with fail
    refine leaves_cons (f := 74) (args := #[.pointer (some ⟨gB, 0, none⟩)]) (by simp) (by simp [go_sem]) ?_
    refine (catch_gave ⟨gB, 0, none⟩ 0 [] _ (zB.cell 0) (zB.frozen 0)).mono ?_
    rintro e u' w'' ⟨rfl, rfl, rfl⟩
    have hr := results_cells2 (P := Try.prog) (fn := Try.f40) rfl (tmps := #[.slice A n k, undef, .pointer (some ⟨gA, 0, none⟩), .pointer (some ⟨gB, 0, none⟩), .pointer (some ⟨gC, 0, none⟩), .func (.func 74) #[] #[.pointer (some ⟨gB, 0, none⟩)], .slice A n k, .agg #[.slice A n k, .int .i64 0], .pointer (some ⟨gC, 0, none⟩), .pointer (some ⟨gC, 0, none⟩), undef]) rfl rfl (Blk.oth zA (fun e => nAB e.symm) 0 (.int .i64 100)) Try.underlying27 rfl (by kernel_rfl) agg_err ((Blk.set zB 0 (.int .i64 100)).cell 0)
    refine (show ∃ v, (results Try.f40 _).run Try.prog _ = .ok v _ ∧ RdPost none w (.returned v) _ from ⟨_, hr, rfl, ?_⟩)
    rw [HgA.out]
    exact b1.setCell (p := ⟨gB, 0, none⟩) hAB _
  | some p =>
    rintro e w1 ⟨C, nc, kc, S, ns, ks, rfl, hNC, hNS, hM, hv1⟩
    obtain ⟨zA, zB, b1⟩ := HK.out w1 hv1
    have ZA := hide zA
    have ZB := hide zB
    clear zA zB
    go_upto_region 99 with (refine wpList_storeQ rfl 27 (.tmp 2) (.tmp 10) rfl gA 27 (zeroP 0) none 0 0 none 0 0 p C nc kc S ns ks rfl rfl ZA.out (by kernel_rfl) ?_; intro V bV BV; have zB := ZB.out.but BV (fun e => nAB e.symm); have cB := zB.cell 0; have fB := zB.frozen 0; have ZB := hide zB; clear zB)
    refine leaves_cons (f := 74) (args := #[.pointer (some ⟨gB, 0, none⟩)]) (by simp) (by simp [go_sem]) ?_
    refine (catch_idle ⟨gB, 0, none⟩ _).mono ?_
    rintro e u' w'' ⟨rfl, rfl, rfl⟩
    have hr := results_cells2 (P := Try.prog) (fn := Try.f40) rfl (tmps := #[.slice A n k, undef, .pointer (some ⟨gA, 0, none⟩), .pointer (some ⟨gB, 0, none⟩), .pointer (some ⟨gC, 0, none⟩), .func (.func 74) #[] #[.pointer (some ⟨gB, 0, none⟩)], .slice A n k, .agg #[.slice A n k, .int .i64 0], .pointer (some ⟨gC, 0, none⟩), .pointer (some ⟨gC, 0, none⟩), pkA p C nc kc S ns ks]) rfl rfl (Blk.oth bV (fun e => nAB e.symm) 0 (.int .i64 0)) Try.underlying27 rfl (by kernel_rfl) agg_err ((Blk.set ZB.out 0 (.int .i64 0)).cell 0)
    refine (show ∃ v, (results Try.f40 _).run Try.prog _ = .ok v _ ∧ RdPost (readQ xs) w (.returned v) _ from ⟨_, hr, ?_⟩)
    rw [hq]
    obtain ⟨m1, m2, m3, m4, m5, m6⟩ := hM
    have hC : ∀ i, i < v.v.heap.size → Off (fun j => j = i) C := fun i hi b o e h => by have := hNC b o e; have h' : b = i := h; omega
    have hS : ∀ i, i < v.v.heap.size → Off (fun j => j = i) S := fun i hi b o e h => by have := hNS b o e; have h' : b = i := h; omega
    have hBB : But (fun i => i = gB) V (V.setCell ⟨gB, 0, none⟩ (.int .i64 0)) := But.setCell V _ rfl
    refine ⟨C, nc, kc, S, ns, ks, rfl, hNC.old hwv, hNS.old hwv, ⟨m1, m2, (m3.but BV (hC gA hAv)).but hBB (hC gB hBv), m4, m5, (m6.but BV (hS gA hAv)).but hBB (hS gB hBv)⟩, ?_⟩
    rw [HgA.out]
    exact (But.below b1 BV (fun i e => by omega) (by have := b1.size; have := HgA.out; omega)).setCell (p := ⟨gB, 0, none⟩) hAB _

end Go.Proofs.Ytdlhcecmodefkaa

namespace Go.Proofs.Ytdlhcecmodefkaa
set_option linter.unusedVariables false
set_option linter.unusedSimpArgs false
open Go.RowKit

/-- What Parse returns. -/
def PsPost (o : Option Pk) (w : World) (e : Ending) (w' : World) : Prop := match o with
  | none => e = .returned (.tuple #[pkA (zeroP 0) none 0 0 none 0 0, .int .i64 100]) ∧ Below w.heap.size w w'
  | some p => ∃ C nc kc S ns ks, e = .returned (.tuple #[pkA p C nc kc S ns ks, .int .i64 0]) ∧ NewAt w C ∧ NewAt w S ∧ PkM w' p C nc kc S ns ks ∧ Below w.heap.size w w'

set_option maxRecDepth 100000 in
set_option maxHeartbeats 4000000 in
theorem parse_any (A : Option Addr) (n k : Nat) (xs : List UInt8) (w : World) (hR : Rd w A n (bv xs)) (hx : xs.length = n) (hk : n ≤ k) (h65 : n ≤ 65535) : Calls Try.prog 16 #[.slice A n k] w (PsPost (readP xs) w) := by
  rw [← parseQ_eq]
  obtain ⟨O, hO⟩ : ∃ O, parseQ xs = O := ⟨_, rfl⟩
  rw [hO]
  unfold parseQ at hO
  have HO := hide hO
  have PR := fun W (b : Below w.heap.size w W) => pkRead_any A n k xs W (hR.keep b) hx hk h65
  have HS := hide (fun p (h : readQ xs = some p) => readQ_short (by omega) h)
  clear hO hR hx hk h65
  go_enter Try.func16, Try.ntmps16
  go_wp2_with fail
  generalize hW : w.alloc _ = W
  obtain ⟨gr, hgr, hB, bW, -⟩ := boxedP (p := zeroP 0) (C := none) (nc := 0) (kc := 0) (S := none) (ns := 0) (ks := 0) hW
  rw [hgr]
  have Hg := hide hgr
  have HZ := hide hB
  have BW := hide bW
  have P := PR W (by rw [hgr]; exact bW)
  clear hW hgr hB bW PR
  refine P.mono ?_
  clear P
  cases hq : readQ xs with
  | none =>
    have h0 : O = none := by rw [← HO.out, hq]
    have H0 := hide h0
    clear h0
    rintro e w1 ⟨rfl, b1⟩
    have HZ := hide (HZ.out.keep b1)
    have BW := hide (BW.out.trans (b1.mono (by have := BW.out.size; have := Hg.out; have := HZ.out.lt; omega)))
    clear b1
    go_upto_region 2 with (refine wpList_storeQ rfl 27 (.tmp 4) (.tmp 9) rfl w1.heap.size 27 (zeroP 0) none 0 0 none 0 0 (zeroP 0) none 0 0 none 0 0 rfl rfl (Blk.new w1 27 (pkVs (zeroP 0) none 0 0 none 0 0)) (by kernel_rfl) ?_; intro V bV BV)
    have hz1 : Below w1.heap.size w1 V := But.below ((Below.refl _ _).alloc (Nat.le_refl _) _) BV (fun i e => by omega) (by simp)
    have HZ := hide (HZ.out.keep hz1)
    have BW := hide (BW.out.trans (hz1.mono (by have := BW.out.size; have := Hg.out; omega)))
    clear hz1 bV BV
    go_upto_region 99 with (refine wpList_storeQ rfl 27 (.tmp 2) (.tmp 18) rfl gr 27 (zeroP 0) none 0 0 none 0 0 (zeroP 0) none 0 0 none 0 0 rfl rfl HZ.out (by kernel_rfl) ?_; intro V2 bV2 BV2)
    refine bodyPost_ret (results_cell_tmp rfl rfl bV2 Try.underlying27 rfl (by kernel_rfl)) rfl ?_
    rw [H0.out]
    exact ⟨rfl, by rw [Hg.out]; exact But.below BW.out BV2 (fun i e => by omega) (by have := BW.out.size; have := Hg.out; omega)⟩
  | some p =>
    have hS := HS.out p hq
    have hO : O = if mayP p = true then some p else none := by rw [← HO.out, hq]
    have HO2 := hide hO
    clear hO HO
    rintro e w1 ⟨C, nc, kc, S, ns, ks, rfl, hNC, hNS, hM, b1⟩
    have HC := hide (show Off (fun j => j = gr) C from fun b o e h => by have h1 := hNC b o e; have h2 := HZ.out.lt; have h3 : b = gr := h; omega)
    have HSS := hide (show Off (fun j => j = gr) S from fun b o e h => by have h1 := hNS b o e; have h2 := HZ.out.lt; have h3 : b = gr := h; omega)
    have HN := hide (And.intro (hNC.old (by have := BW.out.size; have := Hg.out; omega)) (hNS.old (by have := BW.out.size; have := Hg.out; omega)) : NewAt w C ∧ NewAt w S)
    have HZ := hide (HZ.out.keep b1)
    have BW := hide (BW.out.trans (b1.mono (by have := BW.out.size; have := Hg.out; have := HZ.out.lt; omega)))
    have HM := hide hM
    have hgl : gr < w1.heap.size := HZ.out.lt
    clear b1 hM hNC hNS
    go_upto_region 2 with (refine wpList_storeQ rfl 27 (.tmp 4) (.tmp 9) rfl w1.heap.size 27 (zeroP 0) none 0 0 none 0 0 p C nc kc S ns ks rfl rfl (Blk.new w1 27 (pkVs (zeroP 0) none 0 0 none 0 0)) (by kernel_rfl) ?_; intro V bV BV)
    have hz1 : Below w1.heap.size w1 V := But.below ((Below.refl _ _).alloc (Nat.le_refl _) _) BV (fun i e => by omega) (by simp)
    have HZ := hide (HZ.out.keep hz1)
    have BW := hide (BW.out.trans (hz1.mono (by have := BW.out.size; have := Hg.out; omega)))
    have hM := HM.out.keep hz1
    have PC := check_any p C nc kc S ns ks V hM hS
    have HM := hide hM
    obtain ⟨gp, hgp⟩ : ∃ gp, w1.heap.size = gp := ⟨_, rfl⟩
    rw [hgp] at bV ⊢
    have HP := hide bV
    have hrp : ¬ gr = gp := by omega
    clear hz1 bV BV hM hgp
    go_upto_region 3 with (refine wpList_loadPg (by rfl) 27 (.tmp 4) rfl gp 27 p C nc kc S ns ks rfl HP.out Try.underlying27 rfl (by kernel_rfl) ?_)
    refine PC.mono ?_
    rintro e w2 ⟨rfl, b2⟩
    have HZ := hide (HZ.out.keep b2)
    have HP := hide (HP.out.keep b2)
    have HM := hide (HM.out.keep b2)
    have BW := hide (BW.out.trans (b2.mono (by have := BW.out.size; have := Hg.out; omega)))
    clear b2 PC
    by_cases hm : mayP p = true
    · rw [if_pos hm]
      have h0 : O = some p := by rw [HO2.out, if_pos hm]
      have H0 := hide h0
      clear h0 hm
      go_upto_region 4 with fail
      refine wp_region_lit ?_
      refine wpList_loadP rfl 27 (.tmp 4) rfl gp 27 p C nc kc S ns ks rfl HP.out Try.underlying27 rfl (by kernel_rfl) ?_
      refine wpList_storeQ rfl 27 (.tmp 2) (.tmp 19) rfl gr 27 (zeroP 0) none 0 0 none 0 0 p C nc kc S ns ks rfl rfl HZ.out (by kernel_rfl) ?_
      intro V2 bV2 BV2
      go_wp2_with fail
      refine bodyPost_ret (results_cell_tmp rfl rfl bV2 Try.underlying27 rfl (by kernel_rfl)) rfl ?_
      rw [H0.out]
      obtain ⟨m1, m2, m3, m4, m5, m6⟩ := HM.out
      exact ⟨C, nc, kc, S, ns, ks, rfl, HN.out.1, HN.out.2, ⟨m1, m2, m3.but BV2 HC.out, m4, m5, m6.but BV2 HSS.out⟩, by rw [Hg.out]; exact But.below BW.out BV2 (fun i e => by omega) (by have := BW.out.size; have := Hg.out; omega)⟩
    · rw [if_neg hm]
      have h0 : O = none := by rw [HO2.out, if_neg hm]
      have H0 := hide h0
      clear h0 hm
      go_upto_region 99 with (refine wpList_storeQ rfl 27 (.tmp 2) (.tmp 18) rfl gr 27 (zeroP 0) none 0 0 none 0 0 (zeroP 0) none 0 0 none 0 0 rfl rfl HZ.out (by kernel_rfl) ?_; intro V2 bV2 BV2)
      refine bodyPost_ret (results_cell_tmp rfl rfl bV2 Try.underlying27 rfl (by kernel_rfl)) rfl ?_
      rw [H0.out]
      exact ⟨rfl, by rw [Hg.out]; exact But.below BW.out BV2 (fun i e => by omega) (by have := BW.out.size; have := Hg.out; omega)⟩

end Go.Proofs.Ytdlhcecmodefkaa
