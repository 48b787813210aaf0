/-
  What is proved here: a stream in memory (StA11), and what stream's New, Feed and Left return. Condition: at most 65535 bytes at a time.
-/
import Derived.Test.YtdlhcecmodefkaaSm2b
namespace Go.Proofs.Ytdlhcecmodefkaa
set_option linter.unusedVariables false
set_option linter.unusedSimpArgs false
open Go.RowKit

theorem wpList_appM {P : Program} {w : World} {ops : Array Oper} {rest : List Oper} {o : Oper} {a : Act} {Q : Exit → Act → World → Prop} (hgd : o.guard = none) (s x : Operand) (t : TypeId)
    (ho : o.op = .call { callee := .builtin .append, args := #[s, x], argTypes := #[t, t] })
    (e : TypeId) (z : Value) (bytes : Nat) (ht : P.underlying t = some (.slice e)) (hinfo : (P.info? e).map (fun i => (i.zero, i.size, i.bytes)) = some (some z, 1, bytes)) (hz1 : z.cells = #[z])
    (base : Nat) (A : Option Addr) (n c : Nat) (xs : List Value) (hs : a.eval s = .slice A n c) (hown : w.ownsRow base e 1 (.slice A n c) n xs)
    (B : Option Addr) (m d : Nat) (ys : List Value) (hx : a.eval x = .slice B m d) (hr : Rd w B m ys) (h1 : ∀ u ∈ ys, u.oneCell' = true) (N : Nat) (hN : n + m = N)
    (h63 : N ≤ maxLen) (hbytes : N * bytes ≤ 140737488355328) (hbase : base ≤ w.heap.size)
    (h : ∀ A' c' w', w'.ownsRow base e 1 (.slice A' N c') N (xs ++ ys) → Below base w w' → wpList P ops Q rest (a.put o.dst (.slice A' N c')) w') : wpList P ops Q (o :: rest) a w := by
  subst hN
  exact wpList_app hgd s x t ho e z bytes ht hinfo hz1 base A n c xs hs hown B m d ys hx hr h1 h63 hbytes hbase fun A' c' w' h2 _ h4 => h A' c' w' h2 h4
theorem own_low11 {w : World} {b b' : Nat} {e : TypeId} {s : Nat} {v : Value} {n : Nat} {xs : List Value} (h : w.ownsRow b e s v n xs) (hb : b' ≤ b) : w.ownsRow b' e s v n xs :=
  ⟨h.1, h.2.imp id fun ⟨g, cap, cur, e1, hg, r⟩ => ⟨g, cap, cur, e1, Nat.le_trans hb hg, r⟩⟩
/-- Functions against nil. -/
theorem run_neq_func {P : Program} (t : TypeId) {ps rs : Array TypeId} {vd : Bool} (h : P.underlying t = some (.func ps rs vd)) (fn : Fn) (fi ca : Array Value) (w : World) : (Go.binOp .neq t (.func fn fi ca) .nilFunc).run P w = .ok (.bool true) w := by
  have h1 : ∀ d, (Op.equalIn (d + 1) t (.func fn fi ca) .nilFunc).run P w = .ok false w := fun d => by simp [Op.equalIn, run_underlying h]
  have h2 : (Op.equal t (.func fn fi ca) .nilFunc).run P w = .ok false w := h1 9999
  simp only [Go.binOp]
  simp [h2]
theorem run_neq_nilf {P : Program} (t : TypeId) {ps rs : Array TypeId} {vd : Bool} (h : P.underlying t = some (.func ps rs vd)) (w : World) : (Go.binOp .neq t .nilFunc .nilFunc).run P w = .ok (.bool false) w := by
  have h1 : ∀ d, (Op.equalIn (d + 1) t .nilFunc .nilFunc).run P w = .ok true w := fun d => by simp [Op.equalIn, run_underlying h]
  have h2 : (Op.equal t .nilFunc .nilFunc).run P w = .ok true w := h1 9999
  simp only [Go.binOp]
  simp [h2]
/-- What a stream answers once it is broken. -/
def fnV : Option Int → Value
  | none => .nilFunc
  | some e => .func (.func 49) #[.int .i64 e] #[]
/-- A stream in memory. -/
structure StA11 (w : World) (g most : Nat) (A : Option Addr) (k : Nat) (left : List UInt8) (bf : Option Int) : Prop where
  str : Blk w g 78 [.int .i64 (most : Nat), .slice A left.length k, fnV bf]
  own : w.ownsRow 0 5 1 (.slice A left.length k) left.length (bv left)
  ap : ∀ b o, A = some ⟨b, o, none⟩ → b ≠ g
section
variable {w w' : World} {g most : Nat} {A : Option Addr} {k : Nat} {left : List UInt8} {bf : Option Int}
theorem StA11.keep (h : StA11 w g most A k left bf) (b : Below w.heap.size w w') : StA11 w' g most A k left bf := ⟨h.str.keep b, own_keep h.own b, h.ap⟩
theorem StA11.but {T : Nat → Prop} (h : StA11 w g most A k left bf) (b : But T w w') (hg : ¬ T g) (ha : Off T A) : StA11 w' g most A k left bf := ⟨h.str.but b hg, ownS_but h.own b ha, h.ap⟩
end
theorem fault_any (e : Int) (w : World) : Calls Try.prog 49 #[.int .i64 e] w fun x w' => x = .returned (.tuple #[.slice none 0 0, .int .i64 e]) ∧ w = w' := by
  go_enter Try.func49, Try.ntmps49
  go_wp2
  go_ret2
  exact ⟨rfl, rfl⟩
theorem new11_no (m : Int) (w : World) (h : m < 2 ∨ 268435460 < m) : Calls Try.prog 19 #[.int .i64 m] w fun e w' => e = .returned (.tuple #[.pointer none, .int .i64 1]) ∧ w = w' := by
  by_cases h1 : m < 2
  · go_enter Try.func19, Try.ntmps19
    go_wp2
    go_ret2
    exact ⟨rfl, rfl⟩
  · have h2 : 268435460 < m := by omega
    go_enter Try.func19, Try.ntmps19
    go_wp2
    go_ret2
    exact ⟨rfl, rfl⟩
theorem new11_any (m : Nat) (w : World) (h : 2 ≤ m ∧ m ≤ 268435460) : Calls Try.prog 19 #[.int .i64 (m : Nat)] w fun e w' => ∃ g, e = .returned (.tuple #[.pointer (some ⟨g, 0, none⟩), .int .i64 0]) ∧ w.heap.size ≤ g ∧ StA11 w' g m none 0 [] none ∧ Below w.heap.size w w' := by
  have h1 : ¬ (m : Int) < 2 := by omega
  have h2 : ¬ (268435460 : Int) < (m : Int) := by omega
  clear h
  go_enter Try.func19, Try.ntmps19
  go_wp2
  go_ret2
  exact ⟨w.heap.size, rfl, Nat.le_refl _, ⟨Blk.new w 78 [.int .i64 (m : Nat), .slice none 0 0, .nilFunc], World.ownsRow_nil _ _ _ _, (fun _ _ e => by cases e)⟩, (Below.refl _ _).alloc (Nat.le_refl _) _⟩
theorem left11_any (g most : Nat) (A : Option Addr) (k : Nat) (left : List UInt8) (bf : Option Int) (w : World) (h : StA11 w g most A k left bf) : Calls Try.prog 22 #[.pointer (some ⟨g, 0, none⟩)] w fun e w' => e = .returned (.int .i64 (left.length : Nat)) ∧ w = w' := by
  have c0 : w.cell? ⟨g, 1, none⟩ = some (.slice A left.length k) := h.str.cell 1
  clear h
  go_enter Try.func22, Try.ntmps22
  go_wp2
  go_ret
  exact ⟨rfl, rfl⟩
theorem left11_nil (w : World) : Calls Try.prog 22 #[.pointer none] w fun e w' => e = .returned (.int .i64 0) ∧ w = w' := by
  go_enter Try.func22, Try.ntmps22
  go_wp2
  go_ret
  exact ⟨rfl, rfl⟩
theorem feed11_nil (B : Option Addr) (m d : Nat) (w : World) : Calls Try.prog 21 #[.pointer none, .slice B m d] w fun e w' => e = .returned (.tuple #[.slice none 0 0, .int .i64 3]) ∧ w = w' := by
  go_enter Try.func21, Try.ntmps21
  go_wp2
  go_ret2
  exact ⟨rfl, rfl⟩

/-- What Feed tells, its error, what is left then, what it is broken by then. -/
def fdT11 (most : Nat) (left : List UInt8) (bf : Option Int) (bs : List UInt8) : List Pk := match bf with
  | some _ => []
  | none => toP most (left ++ bs)
def fdE11 (most : Nat) (left : List UInt8) (bf : Option Int) (bs : List UInt8) : Int := match bf with
  | some e => e
  | none => erP most (left ++ bs)
def fdL11 (most : Nat) (left : List UInt8) (bf : Option Int) (bs : List UInt8) : List UInt8 := match bf with
  | some _ => left
  | none => lfP most (left ++ bs)
def fdF11 (most : Nat) (left : List UInt8) (bf : Option Int) (bs : List UInt8) : Option Int := match bf with
  | some e => some e
  | none => if brP most (left ++ bs) then some (erP most (left ++ bs)) else none
/-- What Feed answers. -/
def RetFeed11 (g most : Nat) (A : Option Addr) (left : List UInt8) (bf : Option Int) (bs : List UInt8) (w : World) (e : Ending) (w' : World) : Prop :=
  ∃ O ok rs A' k', e = .returned (.tuple #[.slice O rs.length ok, .int .i64 (fdE11 most left bf bs)]) ∧ rs.map PkRow.p = fdT11 most left bf bs ∧ PRd w' O rs ∧ NewAt w O ∧ (∀ r ∈ rs, r.new w) ∧ StA11 w' g most A' k' (fdL11 most left bf bs) (fdF11 most left bf bs) ∧ (A' = A ∨ NewAt w A') ∧ Off (SoB A') O ∧ (∀ r ∈ rs, r.off (SoB A')) ∧ But (fun i => i = g ∨ SoB A i) w w'

set_option maxRecDepth 100000 in
theorem feed11_bad (g most : Nat) (A : Option Addr) (k : Nat) (left : List UInt8) (er : Int) (B : Option Addr) (m d : Nat) (bs : List UInt8) (w : World) (h : StA11 w g most A k left (some er)) :
    Calls Try.prog 21 #[.pointer (some ⟨g, 0, none⟩), .slice B m d] w (RetFeed11 g most A left (some er) bs w) := by
  have c1 : w.cell? ⟨g, 2, none⟩ = some (.func (.func 49) #[.int .i64 er] #[]) := h.str.cell 2
  have hcmp := fun W => run_neq_func (P := Try.prog) 76 Try.underlying76 (.func 49) #[.int .i64 er] #[] W
  have H := hide h
  clear h
  go_enter Try.func21, Try.ntmps21
  go_wp2_with fail
  refine (fault_any er w).mono ?_
  rintro e w1 ⟨rfl, rfl⟩
  go_wp2_with fail
  go_ret2
  exact ⟨none, 0, [], A, k, rfl, rfl, PRd.nil _, NewAt.nil _, by simp, H.out, Or.inl rfl, Off.none_ _, by simp, But.refl _ _⟩

theorem feed11_end {g most : Nat} {A : Option Addr} {left bs : List UInt8} {w w1 w2 w4 : World} {O : Option Addr} {ok : Nat} {rs : List PkRow} {A' : Option Addr} {k' : Nat} {E : Int} {T : List Pk} {L : List UInt8} {F : Option Int}
    (hF : fdE11 most left none bs = E ∧ fdT11 most left none bs = T ∧ fdL11 most left none bs = L ∧ fdF11 most left none bs = F)
    (hg : g < w.heap.size) (b01 : But (SoB A) w w1) (b2 : Below w1.heap.size w1 w2) (bV : But (fun i => i = g) w2 w4) (t2 : rs.map PkRow.p = T) (r2 : PRd w2 O rs) (n2 : NewAt w1 O) (m2 : ∀ r ∈ rs, r.new w1)
    (hst : StA11 w4 g most A' k' L F) (hA : A' = A ∨ NewAt w A') (hO : Off (SoB A') O) (hR : ∀ r ∈ rs, r.off (SoB A')) : RetFeed11 g most A left none bs w (.returned (.tuple #[.slice O rs.length ok, .int .i64 E])) w4 := by
  obtain ⟨f1, f2, f3, f4⟩ := hF
  have hs1 := b01.size
  unfold RetFeed11
  rw [f1, f2, f3, f4]
  refine ⟨O, ok, rs, A', k', rfl, t2, ⟨r2.1.but bV (fun b o e h => by have := n2 b o e; have h' : b = g := h; omega), fun r hr => (r2.2 r hr).but bV ((m2 r hr).high fun i h => by have h' : i = g := h; omega)⟩, n2.old hs1, fun r hr => (m2 r hr).old hs1, hst, hA, hO, hR, ?_⟩
  exact ((b01.wide (fun i h => Or.inr h)).on b2).trans bV (fun i _ h => Or.inl h)

set_option maxRecDepth 100000 in
set_option maxHeartbeats 4000000 in
theorem feed11_ok (g most : Nat) (hmost : most ≤ 268435460) (A : Option Addr) (k : Nat) (left : List UInt8) (B : Option Addr) (m d : Nat) (bs : List UInt8) (w : World) (h : StA11 w g most A k left none) (hr : Rd w B m (bv bs)) (hm : left.length + m ≤ 65535) :
    Calls Try.prog 21 #[.pointer (some ⟨g, 0, none⟩), .slice B m d] w (RetFeed11 g most A left none bs w) := by
  have c0 : w.cell? ⟨g, 0, none⟩ = some (.int .i64 (most : Nat)) := h.str.cell 0
  have c1 : w.cell? ⟨g, 1, none⟩ = some (.slice A left.length k) := h.str.cell 1
  have c2 : w.cell? ⟨g, 2, none⟩ = some .nilFunc := h.str.cell 2
  have hcmp := fun W => run_neq_nilf (P := Try.prog) 76 Try.underlying76 W
  have H := hide h
  have hx : (left ++ bs).length = left.length + m := by rw [List.length_append, ← bv_length bs, hr.1]
  have HX := hide hx
  have HR := hide hr
  obtain ⟨n, hn⟩ : ∃ n, left.length = n := ⟨_, rfl⟩
  rw [hn] at c1 hm
  have Hn := hide hn
  obtain ⟨xs, hxs⟩ : ∃ xs, left ++ bs = xs := ⟨_, rfl⟩
  have hF : fdE11 most left none bs = erP most xs ∧ fdT11 most left none bs = toP most xs ∧ fdL11 most left none bs = lfP most xs ∧ fdF11 most left none bs = if brP most xs then some (erP most xs) else none := by rw [← hxs]; exact ⟨rfl, rfl, rfl, rfl⟩
  have HF := hide hF
  have hbx : bv left ++ bv bs = bv xs := by rw [← bv_append, hxs]
  rw [hxs, hn] at HX
  have Hbx := hide hbx
  clear h hr hx hn hxs hF hbx
  go_enter Try.func21, Try.ntmps21
  go_upto_region 5 with fail
  refine wp_region_held_drew (S := fun Z => Z.cell? ⟨g, 0, none⟩ = some (.int .i64 (most : Nat)) ∧ Z.cell? ⟨g, 1, none⟩ = some (.slice A n k)) (by kernel_rfl) ?_ (fun hHeld => ?_)
  · exact ⟨c0, c1⟩
  refine wpAnyH_take (i := 0) (oi := { dst := some 24, op := _, type := _, pos := _, after := _, guard := _ }) (v := ?v1x1) rfl (by kernel_rfl) (by kernel_rfl) (by kernel_rfl) (fun _ _ _ h => h) (Or.inl ⟨by rfl, ?hy1x1⟩) hHeld ?rest1x1
  case hy1x1 => (intro w hSw; go_simp <;> with_reducible rfl)
  try simp only [Act.put, List.setIfInBounds_toArray, List.set_cons_zero, List.set_cons_succ]
  refine wpAnyH_take (i := 1) (oi := { dst := some 25, op := _, type := _, pos := _, after := _, guard := _ }) (v := ?v1x2) rfl (by kernel_rfl) (by kernel_rfl) (by kernel_rfl) (fun _ _ _ h => h) (Or.inl ⟨by rfl, ?hy1x2⟩) hHeld ?rest1x2
  case hy1x2 => (intro w hSw; go_simp <;> with_reducible rfl)
  try simp only [Act.put, List.setIfInBounds_toArray, List.set_cons_zero, List.set_cons_succ]
  refine wpAnyH_take (i := 2) (oi := { dst := some 26, op := _, type := _, pos := _, after := _, guard := _ }) (v := ?v1x3) rfl (by kernel_rfl) (by kernel_rfl) (by kernel_rfl) (fun _ _ _ h => h) (Or.inl ⟨by rfl, ?hy1x3⟩) hHeld ?rest1x3
  case hy1x3 => (intro w hSw; go_simp <;> with_reducible rfl)
  try simp only [Act.put, List.setIfInBounds_toArray, List.set_cons_zero, List.set_cons_succ]
  refine wpAnyH_take (i := 3) (oi := { dst := some 27, op := _, type := _, pos := _, after := _, guard := _ }) (v := ?v1x4) rfl (by kernel_rfl) (by kernel_rfl) (by kernel_rfl) (fun _ _ _ h => h) (Or.inl ⟨by rfl, ?hy1x4⟩) hHeld ?rest1x4
  case hy1x4 => (intro w hSw; go_simp <;> with_reducible rfl)
  try simp only [Act.put, List.setIfInBounds_toArray, List.set_cons_zero, List.set_cons_succ]
  refine wpAnyH_take (i := 4) (oi := { dst := some 28, op := _, type := _, pos := _, after := _, guard := _ }) (v := ?v1x5) rfl (by kernel_rfl) (by kernel_rfl) (by kernel_rfl) (fun _ _ _ h => h) (Or.inl ⟨by rfl, ?hy1x5⟩) hHeld ?rest1x5
  case hy1x5 => (intro w hSw; go_simp <;> with_reducible rfl)
  try simp only [Act.put, List.setIfInBounds_toArray, List.set_cons_zero, List.set_cons_succ]
  refine wpAnyH_take (i := 6) (oi := { dst := some 30, op := _, type := _, pos := _, after := _, guard := _ }) (v := ?v1x6) rfl (by kernel_rfl) (by kernel_rfl) (by kernel_rfl) (fun _ _ _ h => h) (Or.inl ⟨by rfl, ?hy1x6⟩) hHeld ?rest1x6
  case hy1x6 => (intro w hSw; go_simp <;> with_reducible rfl)
  try simp only [Act.put, List.setIfInBounds_toArray, List.set_cons_zero, List.set_cons_succ]
  refine wpAnyH_take (i := 7) (oi := { dst := some 31, op := _, type := _, pos := _, after := _, guard := _ }) (v := ?v1x7) rfl (by kernel_rfl) (by kernel_rfl) (by kernel_rfl) (fun _ _ _ h => h) (Or.inl ⟨by rfl, ?hy1x7⟩) hHeld ?rest1x7
  case hy1x7 => (intro w hSw; go_simp <;> with_reducible rfl)
  try simp only [Act.put, List.setIfInBounds_toArray, List.set_cons_zero, List.set_cons_succ]
  refine wpAnyH_take (i := 8) (oi := { dst := some 32, op := _, type := _, pos := _, after := _, guard := _ }) (v := ?v1x8) rfl (by kernel_rfl) (by kernel_rfl) (by kernel_rfl) (fun _ _ _ h => h) (Or.inl ⟨by rfl, ?hy1x8⟩) hHeld ?rest1x8
  case hy1x8 => (intro w hSw; go_simp <;> with_reducible rfl)
  try simp only [Act.put, List.setIfInBounds_toArray, List.set_cons_zero, List.set_cons_succ]
  refine wpAnyH_take (i := 9) (oi := { dst := some 33, op := _, type := _, pos := _, after := _, guard := _ }) (v := ?v1x9) rfl (by kernel_rfl) (by kernel_rfl) (by kernel_rfl) (fun _ _ _ h => h) (Or.inl ⟨by rfl, ?hy1x9⟩) hHeld ?rest1x9
  case hy1x9 => (intro w hSw; go_simp <;> with_reducible rfl)
  try simp only [Act.put, List.setIfInBounds_toArray, List.set_cons_zero, List.set_cons_succ]
  refine wpAnyH_ready (rs := [5]) (by kernel_rfl) (by simp) (AllReadyH.cons (o := { dst := some 29, op := _, type := _, pos := _, after := _, guard := _ }) rfl (fun K hK => ?_) AllReadyH.nil)
  rw [if_pos (by rfl)]
  have hown : w.drew.ownsRow 0 5 1 (.slice A n k) n (bv left) := by have := own_keep H.out.own ((Below.refl _ _).drew); rw [Hn.out] at this; exact this
  refine op_app2 (.tmp 27) (.tmp 28) 31 rfl 5 _ _ Try.underlying31 u8_info rfl 0 A n k (bv left) rfl hown B m d (bv bs) rfl (HR.out.keep ((Below.refl _ _).drew)) (bv_one _) (by unfold maxLen; omega) (by omega) (Nat.zero_le _) ?_
  intro A1 k1 w1 o1 b1 h1
  rw [Hbx.out] at o1
  have b01 : But (SoB A) w w1 := (But.ofBelow ((Below.refl _ _).drew) _).trans b1 (fun _ _ e => e)
  have hgA : ¬ SoB A g := fun ⟨o, e⟩ => H.out.ap g o e rfl
  have HB1 := hide (H.out.str.but b01 hgA)
  have c0' := HB1.out.cell 0
  have c1' := HB1.out.cell 1
  rw [Hn.out] at c1'
  have O1 := hide o1
  have B01 := hide b01
  have H1 := hide (show A1 = A ∨ NewAt w A1 from h1.imp id fun h b o e => h b o e)
  clear hown o1 b1 h1 b01
  refine hK.out _ _ ?_ (fun hHeld => ?_)
  · exact ⟨c0', c1'⟩
  clear hK K
  try simp only [Act.put, List.setIfInBounds_toArray, List.set_cons_zero, List.set_cons_succ]
  refine wpAnyH_ready (rs := [10]) (by kernel_rfl) (by simp) (AllReadyH.cons (o := { dst := some 34, op := _, type := _, pos := _, after := _, guard := _ }) rfl (fun K hK => ?_) AllReadyH.nil)
  go_simp
  refine (cut11_any most hmost A1 (n + m) k1 xs w1 (own_rd O1.out) (own_cap O1.out) (by omega)).mono ?_
  rintro e w2 ⟨O, ok, rs, D, dn, dk, rfl, t2, r2, n2, m2, hdn, hdk, i2, d2, f2, g2, b2⟩
  have HB2 := hide (HB1.out.keep b2)
  have c0'' := HB2.out.cell 0
  have c1'' := HB2.out.cell 1
  rw [Hn.out] at c1''
  have B2 := hide b2
  have T2 := hide t2
  have R2 := hide r2
  have N2 := hide n2
  have M2 := hide m2
  have D2 := hide d2
  have F2 := hide f2
  have G2 := hide g2
  have HD := hide hdn
  clear b2 t2 r2 n2 m2 i2 d2 f2 g2 hdn
  go_wp2_with fail
  refine hK.out _ _ ?_ (fun hHeld => ?_)
  · exact ⟨c0'', c1''⟩
  clear hK K
  try simp only [Act.put, List.setIfInBounds_toArray, List.set_cons_zero, List.set_cons_succ]
  refine wpAnyH_take (i := 11) (oi := { dst := some 23, op := _, type := _, pos := _, after := _, guard := _ }) (v := ?v1x12) rfl (by kernel_rfl) (by kernel_rfl) (by kernel_rfl) (fun _ _ _ h => h) (Or.inl ⟨by rfl, ?hy1x12⟩) hHeld ?rest1x12
  case hy1x12 => (intro w hSw; go_simp <;> with_reducible rfl)
  try simp only [Act.put, List.setIfInBounds_toArray, List.set_cons_zero, List.set_cons_succ]
  refine wpAnyH_take (i := 12) (oi := { dst := some 35, op := _, type := _, pos := _, after := _, guard := _ }) (v := ?v1x13) rfl (by kernel_rfl) (by kernel_rfl) (by kernel_rfl) (fun _ _ _ h => h) (Or.inl ⟨by rfl, ?hy1x13⟩) hHeld ?rest1x13
  case hy1x13 => (intro w hSw; go_simp <;> with_reducible rfl)
  try simp only [Act.put, List.setIfInBounds_toArray, List.set_cons_zero, List.set_cons_succ]
  refine wpAnyH_take (i := 13) (oi := { dst := some 36, op := _, type := _, pos := _, after := _, guard := _ }) (v := ?v1x14) rfl (by kernel_rfl) (by kernel_rfl) (by kernel_rfl) (fun _ _ _ h => h) (Or.inl ⟨by rfl, ?hy1x14⟩) hHeld ?rest1x14
  case hy1x14 => (intro w hSw; go_simp <;> with_reducible rfl)
  try simp only [Act.put, List.setIfInBounds_toArray, List.set_cons_zero, List.set_cons_succ]
  refine wpAnyH_take (i := 14) (oi := { dst := some 37, op := _, type := _, pos := _, after := _, guard := _ }) (v := ?v1x15) rfl (by kernel_rfl) (by kernel_rfl) (by kernel_rfl) (fun _ _ _ h => h) (Or.inl ⟨by rfl, ?hy1x15⟩) hHeld ?rest1x15
  case hy1x15 => (intro w hSw; go_simp <;> with_reducible rfl)
  try simp only [Act.put, List.setIfInBounds_toArray, List.set_cons_zero, List.set_cons_succ]
  refine wpAnyH_take (i := 15) (oi := { dst := some 6, op := _, type := _, pos := _, after := _, guard := _ }) (v := ?v1x16) rfl (by kernel_rfl) (by kernel_rfl) (by kernel_rfl) (fun _ _ _ h => h) (Or.inl ⟨by rfl, ?hy1x16⟩) hHeld ?rest1x16
  case hy1x16 => (intro w hSw; go_simp <;> with_reducible rfl)
  try simp only [Act.put, List.setIfInBounds_toArray, List.set_cons_zero, List.set_cons_succ]
  refine wpAnyH_take (i := 16) (oi := { dst := some 7, op := _, type := _, pos := _, after := _, guard := _ }) (v := ?v1x17) rfl (by kernel_rfl) (by kernel_rfl) (by kernel_rfl) (fun _ _ _ h => h) (Or.inl ⟨by rfl, ?hy1x17⟩) hHeld ?rest1x17
  case hy1x17 => (intro w hSw; go_simp <;> with_reducible rfl)
  try simp only [Act.put, List.setIfInBounds_toArray, List.set_cons_zero, List.set_cons_succ]
  refine wpAnyH_take (i := 17) (oi := { dst := some 8, op := _, type := _, pos := _, after := _, guard := _ }) (v := ?v1x18) rfl (by kernel_rfl) (by kernel_rfl) (by kernel_rfl) (fun _ _ _ h => h) (Or.inl ⟨by rfl, ?hy1x18⟩) hHeld ?rest1x18
  case hy1x18 => (intro w hSw; go_simp <;> with_reducible rfl)
  try simp only [Act.put, List.setIfInBounds_toArray, List.set_cons_zero, List.set_cons_succ]
  refine wpAnyH_done (by kernel_rfl) ?_ _
  clear hHeld c0 c1 c2 c0' c1' hcmp
  have hor : brP most xs = true → erP most xs = 100 ∨ erP most xs = 101 := fun hb => by
    unfold erP
    rw [hb]
    exact stC_or _ _
  have hz : brP most xs = false → erP most xs = 0 := fun hb => by
    unfold erP
    rw [hb]
    rfl
  have hlen := lfP_len most xs
  have hL : toP most xs = [] → brP most xs = false → lfP most xs = xs := fun h1 h2 => by
    unfold toP brP lfP at *
    match hn : stNx most xs with
    | .wait => rw [brP, cutAll_wait xs (stCuts most) hn]; rfl
    | .bad => rw [cutAll_bad xs (stCuts most) hn] at h2; cases h2
    | .cut a n => rw [cutAll_cut xs (stCuts most) a n hn] at h1; cases h1
  have hdn5 : dn ≤ 65535 := by have := HX.out; have := HD.out; omega
  have hrs5 : rs.length ≤ 65535 := by have := HX.out; have := congrArg List.length T2.out; rw [List.length_map] at this; omega
  clear hlen
  generalize erP most xs = E at *
  generalize brP most xs = bb at *
  generalize lfP most xs = L at *
  generalize toP most xs = T at *
  have hgl := H.out.str.lt
  have hg1 : g < w1.heap.size := Nat.lt_of_lt_of_le hgl B01.out.size
  have hA1l : ∀ b o, A1 = some ⟨b, o, none⟩ → b < w1.heap.size := fun b o e => own_lt O1.out b o e
  have hA1g : ∀ b o, A1 = some ⟨b, o, none⟩ → b ≠ g := fun b o e => by
    rcases H1.out with h | h
    · exact H.out.ap b o (h ▸ e)
    · have := h b o e
      omega
  have HEND := hide (show ∀ (w4 : World) (A' : Option Addr) (k' : Nat) (F : Option Int), (if bb = true then some E else none) = F → But (fun i => i = g) w2 w4 → StA11 w4 g most A' k' L F → (A' = A ∨ NewAt w A') → Off (SoB A') O → (∀ r ∈ rs, r.off (SoB A')) → RetFeed11 g most A left none bs w (.returned (.tuple #[.slice O rs.length ok, .int .i64 E])) w4 from fun w4 A' k' F hFF bV hst hA hO hR => feed11_end (by rw [← hFF]; exact HF.out) hgl B01.out B2.out bV T2.out R2.out N2.out M2.out hst hA hO hR)
  have sf := HB2.out.frozen
  obtain rfl := HD.out
  have HLX := hide (show rs.map PkRow.p = [] → bb = false → L = xs from fun h1 h2 => hL (by rw [← T2.out]; exact h1) h2)
  have RO := hide R2.out.1
  have RI := hide R2.out.2
  clear HD HF T2 R2 hL
  cases bb with
  | false =>
    obtain rfl := hz rfl
    clear hor hz
    by_cases hrs : rs = []
    · obtain ⟨rfl, e2, rfl⟩ := F2.out hrs rfl
      have hLx : L = xs := HLX.out (by rw [hrs]; rfl) rfl
      have E2 := hide e2
      have HLx := hide hLx
      subst hrs
      clear e2 hLx
      go_wp2_with fail
      go_ret2
      have hset : But (fun i => i = g) w2 (w2.setCell ⟨g, 1, none⟩ (.slice D L.length dk)) := But.setCell w2 _ rfl
      have hown : w2.ownsRow 0 5 1 (.slice D L.length dk) L.length (bv L) := by
        have := own_keep O1.out B2.out
        rw [← E2.out, ← HLx.out] at this
        exact this
      refine HEND.out _ D dk none (by rfl) hset ⟨HB2.out.set 1 _, own_but hown hset (fun b o e h => hA1g b o e h), hA1g⟩ H1.out ?_ (by simp)
      intro b o e ⟨o', e'⟩
      have h1 := hA1l b o' e'
      have h2 := N2.out b o e
      omega
    · skip
      have q : (0 : Int) < (rs.length : Int) := by
        cases rs with
        | nil => exact absurd rfl hrs
        | cons a l => show (0 : Int) < ((l.length + 1 : Nat) : Int); omega
      go_upto_region 10 with (at_builtin; refine wpList_appM rfl (.const (.slice none 0 0)) (.tmp 48) 31 rfl 5 _ _ Try.underlying31 u8_info rfl w2.heap.size none 0 0 [] rfl (World.ownsRow_nil _ _ _ _) D _ dk (bv L) rfl D2.out (bv_one _) L.length (by omega) (by unfold maxLen; omega) (by omega) (Nat.le_refl _) ?_; intro A9 k9 w3 o9 b9; rw [List.nil_append] at o9)
      have HB9 := hide (HB2.out.keep b9)
      have c9 := HB9.out.cell 1
      have sf9 := HB9.out.frozen
      have O9 := hide o9
      have B9 := hide b9
      clear o9 b9
      go_wp2_with fail
      go_ret2
      have hset : But (fun i => i = g) w3 (w3.setCell ⟨g, 1, none⟩ (.slice A9 L.length k9)) := But.setCell w3 _ rfl
      have hn9 : ∀ b o, A9 = some ⟨b, o, none⟩ → w2.heap.size ≤ b := fun b o e => own_newAt O9.out b o e
      have hV2 := (But.refl (fun i => i = g) w2).size
      have h12 := B2.out.size
      refine HEND.out _ A9 k9 none (by rfl) (((But.refl (fun i => i = g) w2).on B9.out).trans hset (fun _ _ e => e)) ⟨HB9.out.set 1 _, own_low11 (own_but O9.out hset (fun b o e h => by have := hn9 b o e; have h' : b = g := h; omega)) (Nat.zero_le _), fun b o e => by have := hn9 b o e; omega⟩ (Or.inr fun b o e => by have := hn9 b o e; have := B01.out.size; omega) ?_ ?_
      · intro b o e ⟨o', e'⟩
        have h1 := hn9 b o' e'
        obtain ⟨b', o'', e2, hl, -⟩ := RO.out.at_ (k := 0) (by cases rs with | nil => exact absurd rfl hrs | cons a l => simp)
        rw [e] at e2
        injection e2 with e2
        injection e2 with e3
        omega
      · exact fun r hr => (RI.out r hr).low fun i ⟨o, e⟩ => by have := hn9 i o e; omega
  | true =>
    obtain ⟨rfl, e2, rfl⟩ := G2.out rfl
    have hE := hor rfl
    have HL0 := hide (List.eq_nil_of_length_eq_zero e2)
    clear hor hz e2
    rcases hE with rfl | rfl
    · skip
      have c2'' : w2.cell? ⟨g, 2, none⟩ = some .nilFunc := HB2.out.cell 2
      have hsto : ∀ m, (store ⟨g, 2, none⟩ (.func (.func 49) #[.int .i64 100] #[]) m).run Try.prog w2 = .ok () (w2.setCell ⟨g, 2, none⟩ (.func (.func 49) #[.int .i64 100] #[])) := fun m => by
        rw [run_store _ _ _ _ _ rfl, c2'']
        simp [sf]
      go_upto_region 8 with fail
      clear hsto c2''
      have hcl : But (fun i => i = g) w2 (w2.setCell ⟨g, 2, none⟩ (fnV (some 100))) := But.setCell w2 _ rfl
      have HB3 := hide (HB2.out.set 2 (fnV (some 100)))
      have D3 := hide (D2.out.but hcl (Off.none_ _))
      have HC := hide hcl
      clear hcl
      change Code.wp _ _ _ _ (w2.setCell ⟨g, 2, none⟩ (fnV (some 100)))
      generalize w2.setCell ⟨g, 2, none⟩ (fnV (some 100)) = V at *
      have c3 := HB3.out.cell 1
      have sf3 := HB3.out.frozen
      clear c0'' c1'' sf
      by_cases hrs : rs = []
      · subst hrs
        go_wp2_with fail
        go_ret2
        have hset : But (fun i => i = g) V (V.setCell ⟨g, 1, none⟩ (.slice none L.length 0)) := But.setCell V _ rfl
        obtain rfl := HL0.out
        exact HEND.out _ none 0 (some 100) (by rfl) (HC.out.trans hset (fun _ _ e => e)) ⟨HB3.out.set 1 _, World.ownsRow_nil _ _ _ _, fun _ _ e => by cases e⟩ (Or.inr (NewAt.nil _)) (fun b o e ⟨o', e'⟩ => by cases e') (by simp)
      · skip
        have q : (0 : Int) < (rs.length : Int) := by
          cases rs with
          | nil => exact absurd rfl hrs
          | cons a l => show (0 : Int) < ((l.length + 1 : Nat) : Int); omega
        go_upto_region 10 with (at_builtin; refine wpList_appM rfl (.const (.slice none 0 0)) (.tmp 48) 31 rfl 5 _ _ Try.underlying31 u8_info rfl V.heap.size none 0 0 [] rfl (World.ownsRow_nil _ _ _ _) none _ 0 (bv L) rfl D3.out (bv_one _) L.length (by omega) (by unfold maxLen; omega) (by omega) (Nat.le_refl _) ?_; intro A9 k9 w3 o9 b9; rw [List.nil_append] at o9)
        have HB9 := hide (HB3.out.keep b9)
        have c9 := HB9.out.cell 1
        have sf9 := HB9.out.frozen
        have O9 := hide o9
        have B9 := hide b9
        clear o9 b9
        go_wp2_with fail
        go_ret2
        have hset : But (fun i => i = g) w3 (w3.setCell ⟨g, 1, none⟩ (.slice A9 L.length k9)) := But.setCell w3 _ rfl
        have hn9 : ∀ b o, A9 = some ⟨b, o, none⟩ → V.heap.size ≤ b := fun b o e => own_newAt O9.out b o e
        have hV2 := HC.out.size
        have h12 := B2.out.size
        refine HEND.out _ A9 k9 (some 100) (by rfl) ((HC.out.on B9.out).trans hset (fun _ _ e => e)) ⟨HB9.out.set 1 _, own_low11 (own_but O9.out hset (fun b o e h => by have := hn9 b o e; have h' : b = g := h; omega)) (Nat.zero_le _), fun b o e => by have := hn9 b o e; omega⟩ (Or.inr fun b o e => by have := hn9 b o e; have := B01.out.size; omega) ?_ ?_
        · intro b o e ⟨o', e'⟩
          have h1 := hn9 b o' e'
          obtain ⟨b', o'', e2, hl, -⟩ := RO.out.at_ (k := 0) (by cases rs with | nil => exact absurd rfl hrs | cons a l => simp)
          rw [e] at e2
          injection e2 with e2
          injection e2 with e3
          omega
        · exact fun r hr => (RI.out r hr).low fun i ⟨o, e⟩ => by have := hn9 i o e; omega
    · skip
      have c2'' : w2.cell? ⟨g, 2, none⟩ = some .nilFunc := HB2.out.cell 2
      have hsto : ∀ m, (store ⟨g, 2, none⟩ (.func (.func 49) #[.int .i64 101] #[]) m).run Try.prog w2 = .ok () (w2.setCell ⟨g, 2, none⟩ (.func (.func 49) #[.int .i64 101] #[])) := fun m => by
        rw [run_store _ _ _ _ _ rfl, c2'']
        simp [sf]
      go_upto_region 8 with fail
      clear hsto c2''
      have hcl : But (fun i => i = g) w2 (w2.setCell ⟨g, 2, none⟩ (fnV (some 101))) := But.setCell w2 _ rfl
      have HB3 := hide (HB2.out.set 2 (fnV (some 101)))
      have D3 := hide (D2.out.but hcl (Off.none_ _))
      have HC := hide hcl
      clear hcl
      change Code.wp _ _ _ _ (w2.setCell ⟨g, 2, none⟩ (fnV (some 101)))
      generalize w2.setCell ⟨g, 2, none⟩ (fnV (some 101)) = V at *
      have c3 := HB3.out.cell 1
      have sf3 := HB3.out.frozen
      clear c0'' c1'' sf
      by_cases hrs : rs = []
      · subst hrs
        go_wp2_with fail
        go_ret2
        have hset : But (fun i => i = g) V (V.setCell ⟨g, 1, none⟩ (.slice none L.length 0)) := But.setCell V _ rfl
        obtain rfl := HL0.out
        exact HEND.out _ none 0 (some 101) (by rfl) (HC.out.trans hset (fun _ _ e => e)) ⟨HB3.out.set 1 _, World.ownsRow_nil _ _ _ _, fun _ _ e => by cases e⟩ (Or.inr (NewAt.nil _)) (fun b o e ⟨o', e'⟩ => by cases e') (by simp)
      · skip
        have q : (0 : Int) < (rs.length : Int) := by
          cases rs with
          | nil => exact absurd rfl hrs
          | cons a l => show (0 : Int) < ((l.length + 1 : Nat) : Int); omega
        go_upto_region 10 with (at_builtin; refine wpList_appM rfl (.const (.slice none 0 0)) (.tmp 48) 31 rfl 5 _ _ Try.underlying31 u8_info rfl V.heap.size none 0 0 [] rfl (World.ownsRow_nil _ _ _ _) none _ 0 (bv L) rfl D3.out (bv_one _) L.length (by omega) (by unfold maxLen; omega) (by omega) (Nat.le_refl _) ?_; intro A9 k9 w3 o9 b9; rw [List.nil_append] at o9)
        have HB9 := hide (HB3.out.keep b9)
        have c9 := HB9.out.cell 1
        have sf9 := HB9.out.frozen
        have O9 := hide o9
        have B9 := hide b9
        clear o9 b9
        go_wp2_with fail
        go_ret2
        have hset : But (fun i => i = g) w3 (w3.setCell ⟨g, 1, none⟩ (.slice A9 L.length k9)) := But.setCell w3 _ rfl
        have hn9 : ∀ b o, A9 = some ⟨b, o, none⟩ → V.heap.size ≤ b := fun b o e => own_newAt O9.out b o e
        have hV2 := HC.out.size
        have h12 := B2.out.size
        refine HEND.out _ A9 k9 (some 101) (by rfl) ((HC.out.on B9.out).trans hset (fun _ _ e => e)) ⟨HB9.out.set 1 _, own_low11 (own_but O9.out hset (fun b o e h => by have := hn9 b o e; have h' : b = g := h; omega)) (Nat.zero_le _), fun b o e => by have := hn9 b o e; omega⟩ (Or.inr fun b o e => by have := hn9 b o e; have := B01.out.size; omega) ?_ ?_
        · intro b o e ⟨o', e'⟩
          have h1 := hn9 b o' e'
          obtain ⟨b', o'', e2, hl, -⟩ := RO.out.at_ (k := 0) (by cases rs with | nil => exact absurd rfl hrs | cons a l => simp)
          rw [e] at e2
          injection e2 with e2
          injection e2 with e3
          omega
        · exact fun r hr => (RI.out r hr).low fun i ⟨o, e⟩ => by have := hn9 i o e; omega

theorem feed11_any (g most : Nat) (hmost : most ≤ 268435460) (A : Option Addr) (k : Nat) (left : List UInt8) (bf : Option Int) (B : Option Addr) (m d : Nat) (bs : List UInt8) (w : World) (h : StA11 w g most A k left bf) (hr : Rd w B m (bv bs)) (hm : left.length + m ≤ 65535) :
    Calls Try.prog 21 #[.pointer (some ⟨g, 0, none⟩), .slice B m d] w (RetFeed11 g most A left bf bs w) := by
  cases bf with
  | none => exact feed11_ok g most hmost A k left B m d bs w h hr hm
  | some er => exact feed11_bad g most A k left er B m d bs w h

end Go.Proofs.Ytdlhcecmodefkaa
