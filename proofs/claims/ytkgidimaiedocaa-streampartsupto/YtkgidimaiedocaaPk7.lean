/-
  What is proved here: what the document's own 'connectBody' of layer 10 returns. Conditions: those of a Connect's fields. ALSO: what the document's own 'body' of layer 10 returns for a packet that may be, of the types 1 to 7 and 11 to 14. Conditions: a payload of at most 65535 bytes; for type 1 a Connect's. ALSO: what the document's own 'body' of layer 10 returns for a packet that may be, of the types 8 to 10. Conditions: at most 65535 filters, 65535 codes. ALSO: what the document's own 'body' of layer 10 returns for a packet that may be (body_any). Conditions: strings and lists of at most 65535.
-/
import Derived.Test.YtkgidimaiedocaaPk1
import Derived.Deep.DeepCutAuto
import Derived.Test.YtkgidimaiedocaaPkLd
namespace Go.Proofs.Ytkgidimaiedocaa
set_option linter.unusedVariables false
set_option linter.unusedSimpArgs false
open Go.RowKit

/-- Text: in memory of its own. -/
theorem text_own (s : ByteArray) (n : Nat) (hs : s.size = n) (hn : n ≤ 65535) (w : World) : Calls Try.prog 64 #[.string s] w (RetOwn 5 (2 + n) (bv (word n ++ s.data.toList)) w) := by
  go_enter Try.func64, Try.ntmps64
  go_wp2_with (first
    | (go_at_call 65; refine (word_any n hn _).mono ?_; rintro e w1 ⟨rfl, k1, b1⟩)
    | (refine wpList_toBs rfl (.tmp 8) 9 28 5 rfl s rfl Try.underlying9 Try.underlying28 Try.underlying5 ?_; rw [hs]; intro c2 w2 r2 b2 _)
    | (at_builtin; refine wpList_app rfl (.tmp 7) (.tmp 9) 28 rfl 5 _ _ Try.underlying28 u8_info rfl w.heap.size _ 2 2 (bv (word n)) rfl (own_keep (k1.own (Nat.le_refl _) 2 rfl (by decide)) b2) _ n c2 (bv s.data.toList) rfl r2 (bv_one _) (by unfold maxLen; omega) (by omega) (Nat.le_trans b1.size b2.size) ?_; intro A3 c3 w3 o3 g3 b3; rw [← bv_append] at o3))
  go_ret
  exact ⟨A3, c3, rfl, o3, (b1.trans (b2.mono b1.size)).trans b3⟩
theorem text_l (xs : List UInt8) (n : Nat) (hx : xs.length = n) (hn : n ≤ 65535) (w : World) : Calls Try.prog 64 #[.string (str xs)] w fun e w' => ∃ C k, e = .returned (.slice C (2 + n) k) ∧ w'.ownsRow w.heap.size 5 1 (.slice C (2 + n) k) (2 + n) (bv (textL xs)) ∧ Below w.heap.size w w' := by
  have h := text_own (str xs) n (by rw [str_size, hx]) hn w
  rw [str_data] at h
  unfold textL
  rw [hx]
  exact h
theorem word_l (n : Int) (h0 : 0 ≤ n) (h : n ≤ 65535) (w : World) : Calls Try.prog 65 #[.int .i64 n] w fun e w' => e = .returned (.slice (some ⟨w.heap.size, 0, none⟩) 2 2) ∧ Blk w' w.heap.size 5 (bv (wordI n)) ∧ Below w.heap.size w w' := by
  obtain ⟨k, rfl⟩ : ∃ k : Nat, n = (k : Int) := ⟨n.toNat, by omega⟩
  exact word_any k (by omega) w
theorem wordI_len (n : Int) : (bv (wordI n)).length = 2 := rfl

theorem Blk.keepB {w w' : World} {g B : Nat} {t : TypeId} {cs : List Value} (h : Blk w g t cs) (b : Below B w w') (hg : g < B) : Blk w' g t cs := (b.block g hg).trans h
/-- A row of the call's own that is so far xs. -/
def OwnX (base : Nat) (W : World) (v : Value) (xs : List UInt8) : Prop := ∃ (A : Option Addr) (c : Nat), v = .slice A xs.length c ∧ W.ownsRow base 5 1 (.slice A xs.length c) xs.length (bv xs)

theorem conFlags_eq (p : Pk) (h0 : 0 ≤ p.qos) (h2 : p.qos ≤ 2) : conFlags p ≤ 246 := by
  unfold conFlags
  have h1 : ∀ b n, flagB b n ≤ n := fun b n => by unfold flagB; split <;> omega
  have := h1 p.clean 2
  have := h1 p.hasWill 4
  have := h1 p.retain 32
  have := h1 p.hasPass 64
  have := h1 p.hasUser 128
  omega

theorem wpList_appN {P : Program} {w : World} {ops : Array Oper} {rest : List Oper} {o : Oper} {a : Act} {Q : Exit → Act → World → Prop} (hgd : o.guard = none) (s x : Operand) (t : TypeId)
    (ho : o.op = .call { callee := .builtin .append, args := #[s, x], argTypes := #[t, t] })
    (e : TypeId) (z : Value) (bytes : Nat) (ht : P.underlying t = some (.slice e)) (hinfo : (P.info? e).map (fun i => (i.zero, i.size, i.bytes)) = some (some z, 1, bytes)) (hz1 : z.cells = #[z])
    (base : Nat) (A : Option Addr) (n c : Nat) (xs : List Value) (hs : a.eval s = .slice A n c) (hown : w.ownsRow base e 1 (.slice A n c) n xs)
    (B : Option Addr) (m d : Nat) (ys : List Value) (hx : a.eval x = .slice B m d) (hr : Rd w B m ys) (h1 : ∀ u ∈ ys, u.oneCell' = true) (N : Nat) (hN : n + m = N)
    (h63 : N ≤ maxLen) (hbytes : N * bytes ≤ 140737488355328) (hbase : base ≤ w.heap.size)
    (h : ∀ A' c' w', w'.ownsRow base e 1 (.slice A' N c') N (xs ++ ys) → Below base w w' → wpList P ops Q rest (a.put o.dst (.slice A' N c')) w') : wpList P ops Q (o :: rest) a w := by
  subst hN
  exact wpList_app hgd s x t ho e z bytes ht hinfo hz1 base A n c xs hs hown B m d ys hx hr h1 h63 hbytes hbase fun A' c' w' h2 _ h4 => h A' c' w' h2 h4
theorem text_m (xs : List UInt8) (M : Nat) (hM : 2 + xs.length = M) (hn : xs.length ≤ 65535) (w : World) : Calls Try.prog 64 #[.string (str xs)] w fun e w' => ∃ C k, e = .returned (.slice C M k) ∧ Rd w' C M (bv (textL xs)) ∧ Below w.heap.size w w' := by
  subst hM
  refine (text_l xs _ rfl hn w).mono ?_
  rintro e w' ⟨C, k, rfl, o, b⟩
  exact ⟨C, k, rfl, own_rd o, b⟩
theorem own_low {w : World} {b b' : Nat} {e : TypeId} {s : Nat} {v : Value} {n : Nat} {xs : List Value} (h : w.ownsRow b e s v n xs) (hb : b' ≤ b) : w.ownsRow b' e s v n xs :=
  ⟨h.1, h.2.imp id fun ⟨g, cap, cur, e1, hg, r⟩ => ⟨g, cap, cur, e1, Nat.le_trans hb hg, r⟩⟩

set_option maxRecDepth 100000 in
set_option maxHeartbeats 8000000 in
theorem conBody_any (p : Pk) (C : Option Addr) (nc kc : Nat) (S : Option Addr) (ns ks : Nat) (w : World) (ha : 0 ≤ p.alive ∧ p.alive ≤ 65535) (hq : 0 ≤ p.qos ∧ p.qos ≤ 2) (l1 : p.client.length ≤ 65535) (l2 : p.hasWill = true → p.topic.length ≤ 65535 ∧ p.payload.length ≤ 65535) (l3 : p.user.length ≤ 65535) (l4 : p.pass.length ≤ 65535) :
    Calls Try.prog 63 #[pkA p C nc kc S ns ks] w (RetOwn 5 (conBody p).length (bv (conBody p)) w) := by
  have HF := hide (conFlags_eq p hq.1 hq.2)
  obtain ⟨BL, hBL⟩ : ∃ BL, conBody p = BL := ⟨_, rfl⟩
  rw [hBL]
  have HBL := hide hBL
  clear hBL
  unfold conBody at HBL
  obtain ⟨ty, dup, id, topic, payload, qos, retain, client, clean, alive, hasWill, hasUser, hasPass, user, pass, present, codes, subs⟩ := p
  simp only [pkA] at ha hq l1 l2 l3 l4 HF HBL ⊢
  obtain ⟨q, rfl⟩ : ∃ q : Nat, qos = (q : Int) := ⟨qos.toNat, by omega⟩
  have hq3 : q ≤ 2 := by omega
  unfold conFlags at HF HBL
  simp only [Int.toNat_natCast] at HF HBL
  have P1 := hide fun W => flag_any clean 2 W
  have P2 := hide fun W => flag_any hasWill 4 W
  have P3 := hide fun W => flag_any retain 32 W
  have P4 := hide fun W => flag_any hasPass 64 W
  have P5 := hide fun W => flag_any hasUser 128 W
  have hle := HF.out
  generalize flagB clean 2 = F1 at *
  generalize flagB hasWill 4 = F2 at *
  generalize flagB retain 32 = F3 at *
  generalize flagB hasPass 64 = F4 at *
  generalize flagB hasUser 128 = F5 at *
  have w1 : IntKind.i64.wrap (8 * (q : Int)) = 8 * (q : Int) := by rw [IntKind.wrap_i64]; omega
  have w2 : IntKind.i64.wrap ((F1 : Int) + (F2 : Int)) = (F1 : Int) + (F2 : Int) := by rw [IntKind.wrap_i64]; omega
  have w3 : IntKind.i64.wrap ((F1 : Int) + (F2 : Int) + 8 * (q : Int)) = (F1 : Int) + (F2 : Int) + 8 * (q : Int) := by rw [IntKind.wrap_i64]; omega
  have w4 : IntKind.i64.wrap ((F1 : Int) + (F2 : Int) + 8 * (q : Int) + (F3 : Int)) = (F1 : Int) + (F2 : Int) + 8 * (q : Int) + (F3 : Int) := by rw [IntKind.wrap_i64]; omega
  have w5 : IntKind.i64.wrap ((F1 : Int) + (F2 : Int) + 8 * (q : Int) + (F3 : Int) + (F4 : Int)) = (F1 : Int) + (F2 : Int) + 8 * (q : Int) + (F3 : Int) + (F4 : Int) := by rw [IntKind.wrap_i64]; omega
  obtain ⟨N, hN⟩ : ∃ N, F1 + F2 + 8 * q + F3 + F4 + F5 = N := ⟨_, rfl⟩
  rw [hN] at hle HBL
  have w6 : IntKind.i64.wrap ((F1 : Int) + (F2 : Int) + 8 * (q : Int) + (F3 : Int) + (F4 : Int) + (F5 : Int)) = (N : Int) := by rw [IntKind.wrap_i64]; omega
  clear hN
  go_enter Try.func63, Try.ntmps63
  go_wp2_with fail
  generalize hW : w.alloc _ = W
  obtain ⟨hB, bW, hsW⟩ := boxed18 hW
  have HBx := hide hB
  have HBW := hide bW
  obtain ⟨g, hg⟩ : ∃ g, w.heap.size = g := ⟨_, rfl⟩
  rw [hg] at HBx hsW ⊢
  have Hg := hide hg
  obtain ⟨z, hz0⟩ : ∃ z, W.heap.size = z := ⟨_, rfl⟩
  have hgz : g < z := by omega
  have Hgz := hide hgz
  have Hz0 := hide hz0
  clear hW hB bW hg hz0 hsW hgz
  refine (text_own ⟨#[77, 81, 84, 84]⟩ 4 rfl (by omega) W).mono ?_
  rintro e W1 ⟨A1, k1, rfl, o1, b1⟩
  rw [Hz0.out] at o1 b1
  have HZ := hide b1
  have HO := hide o1
  have hz : z ≤ W1.heap.size := by have := b1.size; rw [Hz0.out] at this; exact this
  clear o1 b1
  obtain ⟨c0, c1, c2, c3, c4, c5, c6, c7, c8, c9, c10, c11, c12, c13, c14, c15, c16, c17⟩ := (HBx.out.keepB HZ.out Hgz.out).c18
  go_wp2_with fail
  refine wp_region_held_drew (S := fun w' => w' = W1.drew) (by kernel_rfl) ?_ (fun hHeld => ?_)
  · exact rfl
  refine wpAnyH_take (i := 0) (oi := { dst := some 6, op := _, type := _, pos := _, after := _, guard := _ }) (v := ?v1x1) rfl (by kernel_rfl) (by kernel_rfl) (by kernel_rfl) (fun _ _ _ h => h) (Or.inl ⟨by rfl, ?hy1x1⟩) hHeld ?rest1x1
  case hy1x1 => (intro w hSw; go_simp <;> with_reducible rfl)
  try simp only [Act.put, List.setIfInBounds_toArray, List.set_cons_zero, List.set_cons_succ]
  refine wpAnyH_take (i := 1) (oi := { dst := some 7, op := _, type := _, pos := _, after := _, guard := _ }) (v := ?v1x2) rfl (by kernel_rfl) (by kernel_rfl) (by kernel_rfl) (fun _ _ _ h => h) (Or.inl ⟨by rfl, ?hy1x2⟩) hHeld ?rest1x2
  case hy1x2 => (intro w hSw; go_simp <;> with_reducible rfl)
  try simp only [Act.put, List.setIfInBounds_toArray, List.set_cons_zero, List.set_cons_succ]
  refine wpAnyH_take (i := 3) (oi := { dst := some 9, op := _, type := _, pos := _, after := _, guard := _ }) (v := ?v1x3) rfl (by kernel_rfl) (by kernel_rfl) (by kernel_rfl) (fun _ _ _ h => h) (Or.inl ⟨by rfl, ?hy1x3⟩) hHeld ?rest1x3
  case hy1x3 => (intro w hSw; go_simp <;> with_reducible rfl)
  try simp only [Act.put, List.setIfInBounds_toArray, List.set_cons_zero, List.set_cons_succ]
  refine wpAnyH_take (i := 4) (oi := { dst := some 10, op := _, type := _, pos := _, after := _, guard := _ }) (v := ?v1x4) rfl (by kernel_rfl) (by kernel_rfl) (by kernel_rfl) (fun _ _ _ h => h) (Or.inl ⟨by rfl, ?hy1x4⟩) hHeld ?rest1x4
  case hy1x4 => (intro w hSw; go_simp <;> with_reducible rfl)
  try simp only [Act.put, List.setIfInBounds_toArray, List.set_cons_zero, List.set_cons_succ]
  refine wpAnyH_take (i := 7) (oi := { dst := some 13, op := _, type := _, pos := _, after := _, guard := _ }) (v := ?v1x5) rfl (by kernel_rfl) (by kernel_rfl) (by kernel_rfl) (fun _ _ _ h => h) (Or.inl ⟨by rfl, ?hy1x5⟩) hHeld ?rest1x5
  case hy1x5 => (intro w hSw; go_simp <;> with_reducible rfl)
  try simp only [Act.put, List.setIfInBounds_toArray, List.set_cons_zero, List.set_cons_succ]
  refine wpAnyH_take (i := 8) (oi := { dst := some 14, op := _, type := _, pos := _, after := _, guard := _ }) (v := ?v1x6) rfl (by kernel_rfl) (by kernel_rfl) (by kernel_rfl) (fun _ _ _ h => h) (Or.inl ⟨by rfl, ?hy1x6⟩) hHeld ?rest1x6
  case hy1x6 => (intro w hSw; go_simp <;> with_reducible rfl)
  try simp only [Act.put, List.setIfInBounds_toArray, List.set_cons_zero, List.set_cons_succ]
  refine wpAnyH_take (i := 9) (oi := { dst := some 15, op := _, type := _, pos := _, after := _, guard := _ }) (v := ?v1x7) rfl (by kernel_rfl) (by kernel_rfl) (by kernel_rfl) (fun _ _ _ h => h) (Or.inl ⟨by rfl, ?hy1x7⟩) hHeld ?rest1x7
  case hy1x7 => (intro w hSw; go_simp <;> with_reducible rfl)
  try simp only [Act.put, List.setIfInBounds_toArray, List.set_cons_zero, List.set_cons_succ]
  refine wpAnyH_take (i := 10) (oi := { dst := some 16, op := _, type := _, pos := _, after := _, guard := _ }) (v := ?v1x8) rfl (by kernel_rfl) (by kernel_rfl) (by kernel_rfl) (fun _ _ _ h => h) (Or.inl ⟨by rfl, ?hy1x8⟩) hHeld ?rest1x8
  case hy1x8 => (intro w hSw; go_simp <;> with_reducible rfl)
  try simp only [Act.put, List.setIfInBounds_toArray, List.set_cons_zero, List.set_cons_succ]
  refine wpAnyH_take (i := 12) (oi := { dst := some 18, op := _, type := _, pos := _, after := _, guard := _ }) (v := ?v1x9) rfl (by kernel_rfl) (by kernel_rfl) (by kernel_rfl) (fun _ _ _ h => h) (Or.inl ⟨by rfl, ?hy1x9⟩) hHeld ?rest1x9
  case hy1x9 => (intro w hSw; go_simp <;> with_reducible rfl)
  try simp only [Act.put, List.setIfInBounds_toArray, List.set_cons_zero, List.set_cons_succ]
  refine wpAnyH_take (i := 13) (oi := { dst := some 19, op := _, type := _, pos := _, after := _, guard := _ }) (v := ?v1x10) rfl (by kernel_rfl) (by kernel_rfl) (by kernel_rfl) (fun _ _ _ h => h) (Or.inl ⟨by rfl, ?hy1x10⟩) hHeld ?rest1x10
  case hy1x10 => (intro w hSw; go_simp <;> with_reducible rfl)
  try simp only [Act.put, List.setIfInBounds_toArray, List.set_cons_zero, List.set_cons_succ]
  refine wpAnyH_take (i := 14) (oi := { dst := some 20, op := _, type := _, pos := _, after := _, guard := _ }) (v := ?v1x11) rfl (by kernel_rfl) (by kernel_rfl) (by kernel_rfl) (fun _ _ _ h => h) (Or.inl ⟨by rfl, ?hy1x11⟩) hHeld ?rest1x11
  case hy1x11 => (intro w hSw; go_simp <;> with_reducible rfl)
  try simp only [Act.put, List.setIfInBounds_toArray, List.set_cons_zero, List.set_cons_succ]
  refine wpAnyH_take (i := 17) (oi := { dst := some 23, op := _, type := _, pos := _, after := _, guard := _ }) (v := ?v1x12) rfl (by kernel_rfl) (by kernel_rfl) (by kernel_rfl) (fun _ _ _ h => h) (Or.inl ⟨by rfl, ?hy1x12⟩) hHeld ?rest1x12
  case hy1x12 => (intro w hSw; go_simp <;> with_reducible rfl)
  try simp only [Act.put, List.setIfInBounds_toArray, List.set_cons_zero, List.set_cons_succ]
  refine wpAnyH_take (i := 18) (oi := { dst := some 24, op := _, type := _, pos := _, after := _, guard := _ }) (v := ?v1x13) rfl (by kernel_rfl) (by kernel_rfl) (by kernel_rfl) (fun _ _ _ h => h) (Or.inl ⟨by rfl, ?hy1x13⟩) hHeld ?rest1x13
  case hy1x13 => (intro w hSw; go_simp <;> with_reducible rfl)
  try simp only [Act.put, List.setIfInBounds_toArray, List.set_cons_zero, List.set_cons_succ]
  refine wpAnyH_take (i := 21) (oi := { dst := some 27, op := _, type := _, pos := _, after := _, guard := _ }) (v := ?v1x14) rfl (by kernel_rfl) (by kernel_rfl) (by kernel_rfl) (fun _ _ _ h => h) (Or.inl ⟨by rfl, ?hy1x14⟩) hHeld ?rest1x14
  case hy1x14 => (intro w hSw; go_simp <;> with_reducible rfl)
  try simp only [Act.put, List.setIfInBounds_toArray, List.set_cons_zero, List.set_cons_succ]
  refine wpAnyH_take (i := 22) (oi := { dst := some 28, op := _, type := _, pos := _, after := _, guard := _ }) (v := ?v1x15) rfl (by kernel_rfl) (by kernel_rfl) (by kernel_rfl) (fun _ _ _ h => h) (Or.inl ⟨by rfl, ?hy1x15⟩) hHeld ?rest1x15
  case hy1x15 => (intro w hSw; go_simp <;> with_reducible rfl)
  try simp only [Act.put, List.setIfInBounds_toArray, List.set_cons_zero, List.set_cons_succ]
  refine wpAnyH_ready (rs := [2]) (by kernel_rfl) (by simp) (AllReadyH.cons (o := { dst := some 8, op := _, type := _, pos := _, after := _, guard := _ }) rfl (fun K hK => ?_) AllReadyH.nil)
  go_simp
  refine (P1.out _).mono ?_
  rintro e w4 ⟨rfl, rfl⟩
  go_wp2_with fail
  refine hK.out _ _ ?_ (fun hHeld => ?_)
  · first | exact hHeld | rfl
  clear hK K
  try simp only [Act.put, List.setIfInBounds_toArray, List.set_cons_zero, List.set_cons_succ]
  refine wpAnyH_ready (rs := [5]) (by kernel_rfl) (by simp) (AllReadyH.cons (o := { dst := some 11, op := _, type := _, pos := _, after := _, guard := _ }) rfl (fun K hK => ?_) AllReadyH.nil)
  go_simp
  refine (P2.out _).mono ?_
  rintro e w4 ⟨rfl, rfl⟩
  go_wp2_with fail
  refine hK.out _ _ ?_ (fun hHeld => ?_)
  · first | exact hHeld | rfl
  clear hK K
  try simp only [Act.put, List.setIfInBounds_toArray, List.set_cons_zero, List.set_cons_succ]
  refine wpAnyH_take (i := 6) (oi := { dst := some 12, op := _, type := _, pos := _, after := _, guard := _ }) (v := ?v1x18) rfl (by kernel_rfl) (by kernel_rfl) (by kernel_rfl) (fun _ _ _ h => h) (Or.inl ⟨by rfl, ?hy1x18⟩) hHeld ?rest1x18
  case hy1x18 => (intro w hSw; go_simp <;> with_reducible rfl)
  try simp only [Act.put, List.setIfInBounds_toArray, List.set_cons_zero, List.set_cons_succ]
  refine wpAnyH_take (i := 11) (oi := { dst := some 17, op := _, type := _, pos := _, after := _, guard := _ }) (v := ?v1x19) rfl (by kernel_rfl) (by kernel_rfl) (by kernel_rfl) (fun _ _ _ h => h) (Or.inl ⟨by rfl, ?hy1x19⟩) hHeld ?rest1x19
  case hy1x19 => (intro w hSw; go_simp <;> with_reducible rfl)
  try simp only [Act.put, List.setIfInBounds_toArray, List.set_cons_zero, List.set_cons_succ]
  refine wpAnyH_ready (rs := [15]) (by kernel_rfl) (by simp) (AllReadyH.cons (o := { dst := some 21, op := _, type := _, pos := _, after := _, guard := _ }) rfl (fun K hK => ?_) AllReadyH.nil)
  go_simp
  refine (P3.out _).mono ?_
  rintro e w4 ⟨rfl, rfl⟩
  go_wp2_with fail
  refine hK.out _ _ ?_ (fun hHeld => ?_)
  · first | exact hHeld | rfl
  clear hK K
  try simp only [Act.put, List.setIfInBounds_toArray, List.set_cons_zero, List.set_cons_succ]
  refine wpAnyH_take (i := 16) (oi := { dst := some 22, op := _, type := _, pos := _, after := _, guard := _ }) (v := ?v1x21) rfl (by kernel_rfl) (by kernel_rfl) (by kernel_rfl) (fun _ _ _ h => h) (Or.inl ⟨by rfl, ?hy1x21⟩) hHeld ?rest1x21
  case hy1x21 => (intro w hSw; go_simp <;> with_reducible rfl)
  try simp only [Act.put, List.setIfInBounds_toArray, List.set_cons_zero, List.set_cons_succ]
  refine wpAnyH_ready (rs := [19]) (by kernel_rfl) (by simp) (AllReadyH.cons (o := { dst := some 25, op := _, type := _, pos := _, after := _, guard := _ }) rfl (fun K hK => ?_) AllReadyH.nil)
  go_simp
  refine (P4.out _).mono ?_
  rintro e w4 ⟨rfl, rfl⟩
  go_wp2_with fail
  refine hK.out _ _ ?_ (fun hHeld => ?_)
  · first | exact hHeld | rfl
  clear hK K
  try simp only [Act.put, List.setIfInBounds_toArray, List.set_cons_zero, List.set_cons_succ]
  refine wpAnyH_take (i := 20) (oi := { dst := some 26, op := _, type := _, pos := _, after := _, guard := _ }) (v := ?v1x23) rfl (by kernel_rfl) (by kernel_rfl) (by kernel_rfl) (fun _ _ _ h => h) (Or.inl ⟨by rfl, ?hy1x23⟩) hHeld ?rest1x23
  case hy1x23 => (intro w hSw; go_simp <;> with_reducible rfl)
  try simp only [Act.put, List.setIfInBounds_toArray, List.set_cons_zero, List.set_cons_succ]
  refine wpAnyH_ready (rs := [23]) (by kernel_rfl) (by simp) (AllReadyH.cons (o := { dst := some 29, op := _, type := _, pos := _, after := _, guard := _ }) rfl (fun K hK => ?_) AllReadyH.nil)
  go_simp
  refine (P5.out _).mono ?_
  rintro e w4 ⟨rfl, rfl⟩
  go_wp2_with fail
  refine hK.out _ _ ?_ (fun hHeld => ?_)
  · first | exact hHeld | rfl
  clear hK K
  try simp only [Act.put, List.setIfInBounds_toArray, List.set_cons_zero, List.set_cons_succ]
  refine wpAnyH_take (i := 24) (oi := { dst := some 30, op := _, type := _, pos := _, after := _, guard := _ }) (v := ?v1x25) rfl (by kernel_rfl) (by kernel_rfl) (by kernel_rfl) (fun _ _ _ h => h) (Or.inl ⟨by rfl, ?hy1x25⟩) hHeld ?rest1x25
  case hy1x25 => (intro w hSw; go_simp <;> with_reducible rfl)
  try simp only [Act.put, List.setIfInBounds_toArray, List.set_cons_zero, List.set_cons_succ]
  refine wpAnyH_take (i := 25) (oi := { dst := some 4, op := _, type := _, pos := _, after := _, guard := _ }) (v := ?v1x26) rfl (by kernel_rfl) (by kernel_rfl) (by kernel_rfl) (fun _ _ _ h => h) (Or.inl ⟨by rfl, ?hy1x26⟩) hHeld ?rest1x26
  case hy1x26 => (intro w hSw; go_simp <;> with_reducible rfl)
  try simp only [Act.put, List.setIfInBounds_toArray, List.set_cons_zero, List.set_cons_succ]
  refine wpAnyH_done (by kernel_rfl) ?_ _
  clear w1 w2 w3 w4 w5 w6 P1 P2 P3 P4 P5 c0 c1 c2 c3 c4 c5 c6 c7 c8 c9 c10 c11 c12 c13 c14 c15 c16 c17
  obtain ⟨X, hX⟩ : ∃ X, W1.drew = X := ⟨_, rfl⟩
  rw [hX]
  have HO := hide (show X.ownsRow z 5 1 (.slice A1 6 k1) 6 (bv mqtt) from by rw [← hX]; exact HO.out)
  have HZ := hide (show Below z W X from by rw [← hX]; exact HZ.out.drew)
  have hz : z ≤ X.heap.size := by rw [← hX]; exact hz
  clear hX
  go_wp2_with (at_builtin; refine wpList_app rfl (.tmp 31) (.tmp 34) 28 rfl 5 _ _ Try.underlying28 u8_info rfl z A1 6 k1 (bv mqtt) rfl (HO.out.alloc _) (some ⟨X.heap.size, 0, none⟩) 2 2 [.int .u8 4, .int .u8 (N : Int)] rfl (Blk.new X 5 [.int .u8 4, .int .u8 (N : Int)]).rd (by simp [Value.oneCell']) (by unfold maxLen; omega) (by omega) (by simp; omega) ?_; intro A2 k2 X2 o2 g2 b2; have HZ := hide (HZ.out.trans (((Below.refl _ _).alloc hz _).trans b2)); have HO := hide o2; have hz := Nat.le_trans hz (((Below.refl z X).alloc hz (.cells (arr [.int .u8 4, .int .u8 (N : Int)]) 5)).trans b2).size; obtain ⟨c0, c1, c2, c3, c4, c5, c6, c7, c8, c9, c10, c11, c12, c13, c14, c15, c16, c17⟩ := (HBx.out.keepB HZ.out Hgz.out).c18)
  have e8 : bv mqtt ++ [Value.int .u8 4, Value.int .u8 (N : Int)] = bv (mqtt ++ [4, UInt8.ofNat N]) := by rw [bv_append, bv_cons, bv_cons, u8cell (by omega)]; rfl
  have HO := hide (show X2.ownsRow z 5 1 (.slice A2 8 k2) 8 (bv (mqtt ++ [4, UInt8.ofNat N])) from by rw [← e8]; exact HO.out)
  clear e8 o2 g2 b2
  refine (word_l alive ha.1 ha.2 X2).mono ?_
  rintro e X3 ⟨rfl, kk, bb⟩
  have rr := kk.rd
  rw [wordI_len] at rr
  clear kk
  have HZ := hide (HZ.out.trans (bb.mono hz))
  have HO := hide (own_keep HO.out bb)
  have hz := Nat.le_trans hz bb.size
  clear bb c0 c1 c2 c3 c4 c5 c6 c7 c8 c9 c10 c11 c12 c13 c14 c15 c16 c17
  obtain ⟨c0, c1, c2, c3, c4, c5, c6, c7, c8, c9, c10, c11, c12, c13, c14, c15, c16, c17⟩ := (HBx.out.keepB HZ.out Hgz.out).c18
  obtain ⟨lc, hlc⟩ : ∃ lc, 2 + client.length = lc := ⟨_, rfl⟩
  obtain ⟨n1, hn1⟩ : ∃ n1, 10 + lc = n1 := ⟨_, rfl⟩
  go_wp2_with (at_builtin; refine wpList_appN rfl (.tmp 36) (.tmp 39) 28 rfl 5 _ _ Try.underlying28 u8_info rfl z A2 8 k2 (bv (mqtt ++ [4, UInt8.ofNat N])) rfl HO.out _ 2 _ (bv (wordI alive)) rfl rr (bv_one _) 10 (by omega) (by unfold maxLen; omega) (by omega) hz ?_; intro A3 k3 X3 o3 b3; rw [← bv_append] at o3; have HZ := hide (HZ.out.trans b3); have HO := hide o3; have hz := Nat.le_trans hz b3.size; clear o3 b3 rr c0 c1 c2 c3 c4 c5 c6 c7 c8 c9 c10 c11 c12 c13 c14 c15 c16 c17; obtain ⟨c0, c1, c2, c3, c4, c5, c6, c7, c8, c9, c10, c11, c12, c13, c14, c15, c16, c17⟩ := (HBx.out.keepB HZ.out Hgz.out).c18)
  refine (text_m client lc hlc l1 X3).mono ?_
  rintro e X3 ⟨D, kd, rfl, rr, bb⟩
  have HZ := hide (HZ.out.trans (bb.mono hz))
  have HO := hide (own_keep HO.out bb)
  have hz := Nat.le_trans hz bb.size
  clear bb c0 c1 c2 c3 c4 c5 c6 c7 c8 c9 c10 c11 c12 c13 c14 c15 c16 c17
  obtain ⟨c0, c1, c2, c3, c4, c5, c6, c7, c8, c9, c10, c11, c12, c13, c14, c15, c16, c17⟩ := (HBx.out.keepB HZ.out Hgz.out).c18
  go_upto_if 47 with (at_builtin; refine wpList_appN rfl (.tmp 41) (.tmp 44) 28 rfl 5 _ _ Try.underlying28 u8_info rfl z A3 10 k3 (bv (mqtt ++ [4, UInt8.ofNat N] ++ wordI alive)) rfl HO.out _ lc _ (bv (textL client)) rfl rr (bv_one _) n1 (by omega) (by unfold maxLen; omega) (by omega) hz ?_; intro A4 k4 X4 o4 b4; rw [← bv_append] at o4; have HZ := hide (HZ.out.trans b4); have HO := hide o4; have hz := Nat.le_trans hz b4.size; clear o4 b4 rr c0 c1 c2 c3 c4 c5 c6 c7 c8 c9 c10 c11 c12 c13 c14 c15 c16 c17; obtain ⟨c0, c1, c2, c3, c4, c5, c6, c7, c8, c9, c10, c11, c12, c13, c14, c15, c16, c17⟩ := (HBx.out.keepB HZ.out Hgz.out).c18)
  have hy1 : (mqtt ++ [4, UInt8.ofNat N] ++ wordI alive ++ textL client).length = n1 := by rw [← hn1, ← hlc]; simp [mqtt, textL, word, wordI]; omega
  have Hy1 := hide hy1
  have hb1 : n1 ≤ 70000 := by omega
  clear hy1 hlc hn1
  go_cut [3] (fun v Y => ∃ (A : Option Addr) (n k : Nat) (ys : List UInt8), v = .slice A n k ∧ ys.length = n ∧ n ≤ 300000 ∧ ys = mqtt ++ [4, UInt8.ofNat N] ++ wordI alive ++ textL client ++ (if hasWill then textL topic ++ textL payload else []) ∧ Y.ownsRow z 5 1 (.slice A n k) n (bv ys) ∧ Below z W Y)
  case first =>
    cases hasWill with
    | false =>
      go_wp2_with fail
      go_meet
      exact ⟨A4, n1, k4, _, rfl, Hy1.out, by omega, by simp, HO.out, HZ.out⟩
    | true =>
      obtain ⟨l2a, l2b⟩ := l2 rfl
      obtain ⟨m2, hm2⟩ : ∃ m2, 2 + topic.length = m2 := ⟨_, rfl⟩
      obtain ⟨n2, hn2⟩ : ∃ n2, n1 + m2 = n2 := ⟨_, rfl⟩
      obtain ⟨m3, hm3⟩ : ∃ m3, 2 + payload.length = m3 := ⟨_, rfl⟩
      obtain ⟨n3, hn3⟩ : ∃ n3, n2 + m3 = n3 := ⟨_, rfl⟩
      go_wp2_with fail
      refine (text_m topic m2 hm2 l2a _).mono ?_
      rintro e Y1 ⟨D, kd, rfl, rr, bb⟩
      have HZ := hide (HZ.out.trans (bb.mono hz))
      have HO := hide (own_keep HO.out bb)
      have hz := Nat.le_trans hz bb.size
      clear bb c0 c1 c2 c3 c4 c5 c6 c7 c8 c9 c10 c11 c12 c13 c14 c15 c16 c17
      obtain ⟨c0, c1, c2, c3, c4, c5, c6, c7, c8, c9, c10, c11, c12, c13, c14, c15, c16, c17⟩ := (HBx.out.keepB HZ.out Hgz.out).c18
      go_wp2_with (at_builtin; refine wpList_appN rfl (.tmp 48) (.tmp 52) 28 rfl 5 _ _ Try.underlying28 u8_info rfl z A4 n1 k4 (bv (mqtt ++ [4, UInt8.ofNat N] ++ wordI alive ++ textL client)) rfl HO.out _ m2 _ (bv (textL topic)) rfl rr (bv_one _) n2 hn2 (by unfold maxLen; omega) (by omega) hz ?_; intro A6 k6 X6 o6 b6; rw [← bv_append] at o6; have HZ := hide (HZ.out.trans b6); have HO := hide o6; have hz := Nat.le_trans hz b6.size; clear o6 b6 rr c0 c1 c2 c3 c4 c5 c6 c7 c8 c9 c10 c11 c12 c13 c14 c15 c16 c17; obtain ⟨c0, c1, c2, c3, c4, c5, c6, c7, c8, c9, c10, c11, c12, c13, c14, c15, c16, c17⟩ := (HBx.out.keepB HZ.out Hgz.out).c18)
      refine (text_m payload m3 hm3 l2b _).mono ?_
      rintro e Y2 ⟨D2, kd2, rfl, rr, bb⟩
      have HZ := hide (HZ.out.trans (bb.mono hz))
      have HO := hide (own_keep HO.out bb)
      have hz := Nat.le_trans hz bb.size
      clear bb c0 c1 c2 c3 c4 c5 c6 c7 c8 c9 c10 c11 c12 c13 c14 c15 c16 c17
      obtain ⟨c0, c1, c2, c3, c4, c5, c6, c7, c8, c9, c10, c11, c12, c13, c14, c15, c16, c17⟩ := (HBx.out.keepB HZ.out Hgz.out).c18
      go_wp2_with (at_builtin; refine wpList_appN rfl (.tmp 54) (.tmp 58) 28 rfl 5 _ _ Try.underlying28 u8_info rfl z A6 n2 k6 (bv (mqtt ++ [4, UInt8.ofNat N] ++ wordI alive ++ textL client ++ textL topic)) rfl HO.out _ m3 _ (bv (textL payload)) rfl rr (bv_one _) n3 hn3 (by unfold maxLen; omega) (by omega) hz ?_; intro A7 k7 X7 o7 b7; rw [← bv_append] at o7; have HZ := hide (HZ.out.trans b7); have HO := hide o7; have hz := Nat.le_trans hz b7.size; clear o7 b7 rr c0 c1 c2 c3 c4 c5 c6 c7 c8 c9 c10 c11 c12 c13 c14 c15 c16 c17; obtain ⟨c0, c1, c2, c3, c4, c5, c6, c7, c8, c9, c10, c11, c12, c13, c14, c15, c16, c17⟩ := (HBx.out.keepB HZ.out Hgz.out).c18)
      go_meet
      refine ⟨A7, n3, k7, _, rfl, ?_, by omega, by simp, HO.out, HZ.out⟩
      rw [List.length_append, List.length_append, Hy1.out, textL_len, textL_len]
      omega
  case rest =>
    obtain ⟨A5, n5, k5, ys5, rfl, hy5, hn5, hys5, ho5, hb5⟩ := hcut
    have HZ := hide hb5
    have HO := hide ho5
    have hz : z ≤ wc.heap.size := by have := hb5.size; rw [Hz0.out] at this; exact this
    have Hy5 := hide hy5
    have Hs5 := hide hys5
    clear hy5 hys5 ho5 hb5 c0 c1 c2 c3 c4 c5 c6 c7 c8 c9 c10 c11 c12 c13 c14 c15 c16 c17
    obtain ⟨c0, c1, c2, c3, c4, c5, c6, c7, c8, c9, c10, c11, c12, c13, c14, c15, c16, c17⟩ := (HBx.out.keepB HZ.out Hgz.out).c18
    go_upto_if 61 with (fail)
    go_cut [3] (fun v Y => ∃ (A : Option Addr) (n k : Nat) (ys : List UInt8), v = .slice A n k ∧ ys.length = n ∧ n ≤ 400000 ∧ ys = mqtt ++ [4, UInt8.ofNat N] ++ wordI alive ++ textL client ++ (if hasWill then textL topic ++ textL payload else []) ++ (if hasUser then textL user else []) ∧ Y.ownsRow z 5 1 (.slice A n k) n (bv ys) ∧ Below z W Y)
    case first =>
      cases hasUser with
      | false =>
        go_wp2_with fail
        go_meet
        exact ⟨A5, n5, k5, ys5, rfl, Hy5.out, by omega, by rw [Hs5.out]; simp, HO.out, HZ.out⟩
      | true =>
        obtain ⟨m2, hm2⟩ : ∃ m2, 2 + user.length = m2 := ⟨_, rfl⟩
        obtain ⟨n2, hn2⟩ : ∃ n2, n5 + m2 = n2 := ⟨_, rfl⟩
        go_wp2_with fail
        refine (text_m user m2 hm2 l3 _).mono ?_
        rintro e Y1 ⟨D, kd, rfl, rr, bb⟩
        have HZ := hide (HZ.out.trans (bb.mono hz))
        have HO := hide (own_keep HO.out bb)
        have hz := Nat.le_trans hz bb.size
        clear bb c0 c1 c2 c3 c4 c5 c6 c7 c8 c9 c10 c11 c12 c13 c14 c15 c16 c17
        obtain ⟨c0, c1, c2, c3, c4, c5, c6, c7, c8, c9, c10, c11, c12, c13, c14, c15, c16, c17⟩ := (HBx.out.keepB HZ.out Hgz.out).c18
        go_wp2_with (at_builtin; refine wpList_appN rfl (.tmp 62) (.tmp 65) 28 rfl 5 _ _ Try.underlying28 u8_info rfl z A5 n5 k5 (bv ys5) rfl HO.out _ m2 _ (bv (textL user)) rfl rr (bv_one _) n2 hn2 (by unfold maxLen; omega) (by omega) hz ?_; intro A6 k6 X6 o6 b6; rw [← bv_append] at o6; have HZ := hide (HZ.out.trans b6); have HO := hide o6; have hz := Nat.le_trans hz b6.size; clear o6 b6 rr c0 c1 c2 c3 c4 c5 c6 c7 c8 c9 c10 c11 c12 c13 c14 c15 c16 c17; obtain ⟨c0, c1, c2, c3, c4, c5, c6, c7, c8, c9, c10, c11, c12, c13, c14, c15, c16, c17⟩ := (HBx.out.keepB HZ.out Hgz.out).c18)
        go_meet
        refine ⟨A6, n2, k6, _, rfl, ?_, by omega, by rw [Hs5.out]; simp, HO.out, HZ.out⟩
        rw [List.length_append, Hy5.out, textL_len]
        omega
    case rest =>
      clear Hy5 Hs5 HO HZ hz hn5
      obtain ⟨A5, n5, k5, ys5, rfl, hy5, hn5, hys5, ho5, hb5⟩ := hcut
      have HZ := hide hb5
      have HO := hide ho5
      have hz : z ≤ wc.heap.size := by have := hb5.size; rw [Hz0.out] at this; exact this
      have Hy5 := hide hy5
      have Hs5 := hide hys5
      clear hy5 hys5 ho5 hb5 c0 c1 c2 c3 c4 c5 c6 c7 c8 c9 c10 c11 c12 c13 c14 c15 c16 c17
      obtain ⟨c0, c1, c2, c3, c4, c5, c6, c7, c8, c9, c10, c11, c12, c13, c14, c15, c16, c17⟩ := (HBx.out.keepB HZ.out Hgz.out).c18
      go_upto_if 68 with (fail)
      go_cut [3] (fun v Y => ∃ (A : Option Addr) (n k : Nat) (ys : List UInt8), v = .slice A n k ∧ ys.length = n ∧ n ≤ 500000 ∧ ys = mqtt ++ [4, UInt8.ofNat N] ++ wordI alive ++ textL client ++ (if hasWill then textL topic ++ textL payload else []) ++ (if hasUser then textL user else []) ++ (if hasPass then textL pass else []) ∧ Y.ownsRow z 5 1 (.slice A n k) n (bv ys) ∧ Below z W Y)
      case first =>
        cases hasPass with
        | false =>
          go_wp2_with fail
          go_meet
          exact ⟨A5, n5, k5, ys5, rfl, Hy5.out, by omega, by rw [Hs5.out]; simp, HO.out, HZ.out⟩
        | true =>
          obtain ⟨m2, hm2⟩ : ∃ m2, 2 + pass.length = m2 := ⟨_, rfl⟩
          obtain ⟨n2, hn2⟩ : ∃ n2, n5 + m2 = n2 := ⟨_, rfl⟩
          go_wp2_with fail
          refine (text_m pass m2 hm2 l4 _).mono ?_
          rintro e Y1 ⟨D, kd, rfl, rr, bb⟩
          have HZ := hide (HZ.out.trans (bb.mono hz))
          have HO := hide (own_keep HO.out bb)
          have hz := Nat.le_trans hz bb.size
          clear bb c0 c1 c2 c3 c4 c5 c6 c7 c8 c9 c10 c11 c12 c13 c14 c15 c16 c17
          obtain ⟨c0, c1, c2, c3, c4, c5, c6, c7, c8, c9, c10, c11, c12, c13, c14, c15, c16, c17⟩ := (HBx.out.keepB HZ.out Hgz.out).c18
          go_wp2_with (at_builtin; refine wpList_appN rfl (.tmp 69) (.tmp 72) 28 rfl 5 _ _ Try.underlying28 u8_info rfl z A5 n5 k5 (bv ys5) rfl HO.out _ m2 _ (bv (textL pass)) rfl rr (bv_one _) n2 hn2 (by unfold maxLen; omega) (by omega) hz ?_; intro A6 k6 X6 o6 b6; rw [← bv_append] at o6; have HZ := hide (HZ.out.trans b6); have HO := hide o6; have hz := Nat.le_trans hz b6.size; clear o6 b6 rr c0 c1 c2 c3 c4 c5 c6 c7 c8 c9 c10 c11 c12 c13 c14 c15 c16 c17; obtain ⟨c0, c1, c2, c3, c4, c5, c6, c7, c8, c9, c10, c11, c12, c13, c14, c15, c16, c17⟩ := (HBx.out.keepB HZ.out Hgz.out).c18)
          go_meet
          refine ⟨A6, n2, k6, _, rfl, ?_, by omega, by rw [Hs5.out]; simp, HO.out, HZ.out⟩
          rw [List.length_append, Hy5.out, textL_len]
          omega
      case rest =>
        clear Hy5 Hs5 HO HZ hz hn5
        obtain ⟨A5, n5, k5, ys5, rfl, hy5, hn5, hys5, ho5, hb5⟩ := hcut
        have HZ := hide hb5
        have HO := hide ho5
        have hz : z ≤ wc.heap.size := by have := hb5.size; rw [Hz0.out] at this; exact this
        have Hy5 := hide hy5
        have Hs5 := hide hys5
        clear hy5 hys5 ho5 hb5 c0 c1 c2 c3 c4 c5 c6 c7 c8 c9 c10 c11 c12 c13 c14 c15 c16 c17
        obtain ⟨c0, c1, c2, c3, c4, c5, c6, c7, c8, c9, c10, c11, c12, c13, c14, c15, c16, c17⟩ := (HBx.out.keepB HZ.out Hgz.out).c18
        go_wp2_with fail
        go_ret
        have eb : BL = ys5 := by rw [← HBL.out, Hs5.out]
        rw [eb, Hy5.out]
        exact ⟨A5, k5, rfl, by rw [Hg.out]; exact own_low HO.out (by have := Hgz.out; omega), by rw [Hg.out]; rw [Hg.out] at HBW; exact HBW.out.trans (HZ.out.mono (by have := Hgz.out; omega))⟩

end Go.Proofs.Ytkgidimaiedocaa

namespace Go.Proofs.Ytkgidimaiedocaa
set_option linter.unusedVariables false
set_option linter.unusedSimpArgs false
open Go.RowKit

theorem wordI_len2 (n : Int) : (wordI n).length = 2 := rfl

set_option maxRecDepth 100000 in
set_option maxHeartbeats 8000000 in
theorem body1 (p : Pk) (C : Option Addr) (nc kc : Nat) (S : Option Addr) (ns ks : Nat) (w : World) (ht : p.ty = 1) (ha : 0 ≤ p.alive ∧ p.alive ≤ 65535) (hq : 0 ≤ p.qos ∧ p.qos ≤ 2) (l1 : p.client.length ≤ 65535) (l2 : p.hasWill = true → p.topic.length ≤ 65535 ∧ p.payload.length ≤ 65535) (l3 : p.user.length ≤ 65535) (l4 : p.pass.length ≤ 65535) : Calls Try.prog 38 #[pkA p C nc kc S ns ks] w (RetSl (bodyP p).length (bv (bodyP p)) w) := by
  have hb : bodyP p = conBody p := by unfold bodyP; rw [if_pos ht]
  rw [hb]
  obtain ⟨BL, hBL⟩ : ∃ BL, conBody p = BL := ⟨_, rfl⟩
  have P := fun W => conBody_any p C nc kc S ns ks W ha hq l1 l2 l3 l4
  rw [hBL] at P ⊢
  clear ha hq l1 l2 l3 l4 hb hBL
  have Ht := hide ht
  clear ht
  go_enter Try.func38, Try.ntmps38
  simp only [pkA]
  go_upto_region 2 with fail
  generalize hW : w.alloc _ = W
  obtain ⟨g, hg, hB, bW, -⟩ := boxedP (p := p) hW
  have bw : Below w.heap.size w W := by rw [hg]; exact bW
  rw [hg]
  have HB := hide hB
  have BW := hide bw
  clear hW hg hB bW bw
  have P := P W
  obtain ⟨c0, -⟩ := HB.out.p18
  rw [Ht.out] at c0
  go_upto_region 4 with fail
  refine wp_region_lit ?_
  refine wpList_loadP rfl 35 (.tmp 1) rfl g 35 p C nc kc S ns ks rfl HB.out Try.underlying35 rfl (by kernel_rfl) ?_
  go_wp2_with fail
  refine P.mono ?_
  rintro e W1 ⟨A, c, rfl, o1, b1⟩
  go_wp2_with fail
  go_ret
  exact ⟨A, c, rfl, own_cap o1, own_rd o1, below_on BW.out b1⟩

set_option maxRecDepth 100000 in
set_option maxHeartbeats 8000000 in
theorem body2 (p : Pk) (C : Option Addr) (nc kc : Nat) (S : Option Addr) (ns ks : Nat) (w : World) (ht : p.ty = 2) (c : Nat) (hc : p.codes = [(c : Int)]) (h5 : c ≤ 5) (hM : PkM w p C nc kc S ns ks) : Calls Try.prog 38 #[pkA p C nc kc S ns ks] w (RetSl (bodyP p).length (bv (bodyP p)) w) := by
  have hb : bodyP p = [if p.present then 1 else 0, UInt8.ofNat c] := by unfold bodyP; rw [if_neg (by omega), if_pos ht, hc]; rfl
  rw [hb]
  obtain ⟨m1, -, m3, -⟩ := hM
  rw [hc] at m1 m3
  simp only [List.length_singleton] at m1
  obtain rfl := m1
  have HM := hide m3
  clear hb hc m3
  have Ht := hide ht
  clear ht
  go_enter Try.func38, Try.ntmps38
  simp only [pkA]
  go_upto_region 2 with fail
  generalize hW : w.alloc _ = W
  obtain ⟨g, hg, hB, bW, -⟩ := boxedP (p := p) hW
  have bw : Below w.heap.size w W := by rw [hg]; exact bW
  rw [hg]
  have HB := hide hB
  have BW := hide bw
  clear hW hg hB bW bw
  obtain ⟨b, o, rfl, hbl, hcell⟩ := (HM.out.keep BW.out).at_ (k := 0) (by omega)
  have cc : W.cell? ⟨b, o, none⟩ = some (.int .i64 (c : Int)) := hcell 0 _ rfl
  obtain ⟨c0, -, -, -, -, -, -, -, -, -, -, -, -, -, -, c15, c16, -⟩ := HB.out.p18
  rw [Ht.out] at c0
  have e8 : ∀ x : Nat, x ≤ 1 → bv [UInt8.ofNat x, UInt8.ofNat c] = [.int .u8 (x : Int), .int .u8 (c : Int)] := fun x hx => by rw [bv_cons, bv_cons, u8cell (by omega), u8cell (by omega)]; rfl
  have E8 := hide e8
  clear e8 hcell hbl
  cases hp : p.present with
  | false =>
    rw [hp] at c15
    go_wp2_with fail
    all_goals go_ret
    all_goals refine ⟨_, _, rfl, Nat.le_refl _, ?_, below_on BW.out ((Below.refl _ _).alloc (Nat.le_refl _) _)⟩
    all_goals rw [show bv [0, UInt8.ofNat c] = bv [UInt8.ofNat 0, UInt8.ofNat c] from rfl, E8.out 0 (by omega)]
    all_goals exact (Blk.new W 5 [.int .u8 0, .int .u8 (c : Int)]).rd
  | true =>
    rw [hp] at c15
    go_wp2_with fail
    all_goals go_ret
    all_goals refine ⟨_, _, rfl, Nat.le_refl _, ?_, below_on BW.out ((Below.refl _ _).alloc (Nat.le_refl _) _)⟩
    all_goals rw [show bv [1, UInt8.ofNat c] = bv [UInt8.ofNat 1, UInt8.ofNat c] from rfl, E8.out 1 (by omega)]
    all_goals exact (Blk.new W 5 [.int .u8 1, .int .u8 (c : Int)]).rd

set_option maxRecDepth 100000 in
set_option maxHeartbeats 8000000 in
theorem body4 (p : Pk) (C : Option Addr) (nc kc : Nat) (S : Option Addr) (ns ks : Nat) (w : World) (ht : p.ty = 4 ∨ p.ty = 5 ∨ p.ty = 6 ∨ p.ty = 7 ∨ p.ty = 11) (hi : 0 ≤ p.id ∧ p.id ≤ 65535) : Calls Try.prog 38 #[pkA p C nc kc S ns ks] w (RetSl (bodyP p).length (bv (bodyP p)) w) := by
  have hb : bodyP p = wordI p.id := by unfold bodyP; rw [if_neg (by omega), if_neg (by omega), if_neg (by omega), if_pos ht]
  rw [hb]
  have P := fun W => word_l p.id hi.1 hi.2 W
  clear hi hb
  rcases ht with ht | ht | ht | ht | ht
  all_goals
    have Ht := hide ht
    clear ht
    go_enter Try.func38, Try.ntmps38
    simp only [pkA]
    go_upto_region 2 with fail
    generalize hW : w.alloc _ = W
    obtain ⟨g, hg, hB, bW, -⟩ := boxedP (p := p) hW
    have bw : Below w.heap.size w W := by rw [hg]; exact bW
    rw [hg]
    have HB := hide hB
    have BW := hide bw
    clear hW hg hB bW bw
    obtain ⟨c0, -, c2, -⟩ := HB.out.p18
    rw [Ht.out] at c0
    have P := P W
    go_wp2_with fail
    refine P.mono ?_
    rintro e W1 ⟨rfl, k1, b1⟩
    go_wp2_with fail
    go_ret
    exact ⟨_, _, rfl, by rw [wordI_len2]; exact Nat.le_refl _, by have := k1.rd; rwa [wordI_len, ← wordI_len2 p.id] at this, below_on BW.out b1⟩

set_option maxRecDepth 100000 in
set_option maxHeartbeats 8000000 in
theorem body0 (p : Pk) (C : Option Addr) (nc kc : Nat) (S : Option Addr) (ns ks : Nat) (w : World) (ht : p.ty = 12 ∨ p.ty = 13 ∨ p.ty = 14) : Calls Try.prog 38 #[pkA p C nc kc S ns ks] w (RetSl (bodyP p).length (bv (bodyP p)) w) := by
  have hb : bodyP p = [] := by unfold bodyP; rw [if_neg (by omega), if_neg (by omega), if_neg (by omega), if_neg (by omega), if_neg (by omega)]
  rw [hb]
  clear hb
  rcases ht with ht | ht | ht
  all_goals
    have Ht := hide ht
    clear ht
    go_enter Try.func38, Try.ntmps38
    simp only [pkA]
    go_upto_region 2 with fail
    generalize hW : w.alloc _ = W
    obtain ⟨g, hg, hB, bW, -⟩ := boxedP (p := p) hW
    have bw : Below w.heap.size w W := by rw [hg]; exact bW
    rw [hg]
    have HB := hide hB
    have BW := hide bw
    clear hW hg hB bW bw
    obtain ⟨c0, -⟩ := HB.out.p18
    rw [Ht.out] at c0
    go_wp2_with fail
    go_ret
    exact ⟨_, _, rfl, Nat.le_refl _, Rd.nil _ _, BW.out⟩

set_option maxRecDepth 100000 in
set_option maxHeartbeats 8000000 in
theorem body3 (p : Pk) (C : Option Addr) (nc kc : Nat) (S : Option Addr) (ns ks : Nat) (w : World) (ht : p.ty = 3) (l1 : p.topic.length ≤ 65535) (l2 : p.payload.length ≤ 1048576) (hi : 0 < p.qos → 0 ≤ p.id ∧ p.id ≤ 65535) : Calls Try.prog 38 #[pkA p C nc kc S ns ks] w (RetSl (bodyP p).length (bv (bodyP p)) w) := by
  have hb : bodyP p = textL p.topic ++ (if 0 < p.qos then wordI p.id else []) ++ p.payload := by unfold bodyP; rw [if_neg (by omega), if_neg (by omega), if_pos ht]
  obtain ⟨BL, hBL⟩ : ∃ BL, bodyP p = BL := ⟨_, rfl⟩
  rw [hBL]
  rw [hb] at hBL
  have HBL := hide hBL
  clear hb hBL
  obtain ⟨m, hm⟩ : ∃ m, 2 + p.topic.length = m := ⟨_, rfl⟩
  have hmb : m ≤ 65537 := by omega
  have P := fun W => text_l p.topic _ rfl l1 W
  rw [hm] at P
  have HT := hide (show (textL p.topic).length = m by rw [textL_len, hm])
  obtain ⟨l, hl⟩ : ∃ l, p.payload.length = l := ⟨_, rfl⟩
  rw [hl] at l2
  have HL := hide hl
  clear hm hl l1
  have Ht := hide ht
  clear ht
  go_enter Try.func38, Try.ntmps38
  simp only [pkA]
  go_upto_region 2 with fail
  generalize hW : w.alloc _ = W
  obtain ⟨g, hg, hB, bW, -⟩ := boxedP (p := p) hW
  have bw : Below w.heap.size w W := by rw [hg]; exact bW
  rw [hg]
  have HB := hide hB
  have BW := hide bw
  clear hW hg hB bW bw
  obtain ⟨c0, -, c2, c3, c4, c5, -⟩ := HB.out.p18
  rw [Ht.out] at c0
  have P := P W
  go_wp2_with fail
  refine P.mono ?_
  rintro e W1 ⟨A1, k1, rfl, o1, b1⟩
  have HO := hide (own_low o1 (Nat.le_refl _))
  obtain ⟨z, hz⟩ : ∃ z, W.heap.size = z := ⟨_, rfl⟩
  have Hz := hide hz
  rw [hz] at HO b1
  have hz1 : z ≤ W1.heap.size := by have := b1.size; rwa [hz] at this
  have BZ := hide b1
  have Hgz := hide (show g < z by rw [← hz]; exact HB.out.lt)
  have HB1 := hide (HB.out.keepB (B := z) b1 (by rw [← hz]; exact HB.out.lt))
  clear P o1 b1 c0 c2 c3 c4 c5 hz HB
  by_cases hq : 0 < p.qos
  case pos =>
    have HBL := hide (show textL p.topic ++ wordI p.id ++ p.payload = BL by have := HBL.out; rwa [if_pos hq] at this)
    have PW := fun W => word_l p.id (hi hq).1 (hi hq).2 W
    have PW := PW W1
    obtain ⟨c0, -, c2, c3, c4, c5, -⟩ := HB1.out.p18
    go_wp2_with fail
    refine PW.mono ?_
    rintro e W2 ⟨rfl, kk, bb⟩
    have rr := kk.rd
    rw [wordI_len] at rr
    have BZ := hide (BZ.out.trans (bb.mono hz1))
    have HO := hide (own_keep HO.out bb)
    have hz1 := Nat.le_trans hz1 bb.size
    have HB1 := hide (HB1.out.keep bb)
    clear kk bb PW c0 c2 c3 c4 c5
    go_upto_region 13 with (at_builtin; refine wpList_appN rfl (.tmp 38) (.tmp 41) 28 rfl 5 _ _ Try.underlying28 u8_info rfl z A1 m k1 (bv (textL p.topic)) rfl HO.out _ 2 _ (bv (wordI p.id)) rfl rr (bv_one _) (m + 2) rfl (by unfold maxLen; omega) (by omega) hz1 ?_; intro A3 k3 X3 o3 b3; rw [← bv_append] at o3; have BZ := hide (BZ.out.trans b3); have HO := hide o3; have hz1 := Nat.le_trans hz1 b3.size; have HB1 := hide (HB1.out.keepB b3 Hgz.out); clear o3 b3 rr; obtain ⟨M, hMm⟩ : ∃ M, m + 2 = M := ⟨_, rfl⟩; rw [hMm] at HO ⊢)
    have HLen := hide (show (textL p.topic ++ wordI p.id).length = M by rw [List.length_append, HT.out]; exact hMm)
    generalize textL p.topic ++ wordI p.id = ys at *
    obtain ⟨c0, -, c2, c3, c4, c5, -⟩ := HB1.out.p18
    go_wp2_with (first
      | (refine wpList_toBs rfl (.tmp 46) 9 28 5 rfl (str p.payload) rfl Try.underlying9 Try.underlying28 Try.underlying5 ?_; rw [str_size, HL.out, str_data]; intro c9 w9 r9 b9 _; have HO := hide (own_keep HO.out b9); have BZ := hide (BZ.out.trans (b9.mono hz1)); have hz9 := Nat.le_trans hz1 b9.size)
      | (at_builtin; refine wpList_appN rfl (.tmp 43) (.tmp 47) 28 rfl 5 _ _ Try.underlying28 u8_info rfl z A3 M k3 (bv ys) rfl HO.out _ l _ (bv p.payload) rfl r9 (bv_one _) (M + l) rfl (by unfold maxLen; omega) (by omega) hz9 ?_; intro A5 k5 X5 o5 b5; rw [← bv_append] at o5))
    go_ret
    rw [HBL.out] at o5
    have hlen : BL.length = M + l := by rw [← HBL.out, List.length_append, HLen.out, HL.out]
    rw [hlen]
    exact ⟨A5, k5, rfl, own_cap o5, own_rd o5, below_on BW.out (by rw [Hz.out]; exact BZ.out.trans b5)⟩
  case neg =>
    have HBL := hide (show textL p.topic ++ p.payload = BL by have := HBL.out; rwa [if_neg hq, List.append_nil] at this)
    obtain ⟨c0, -, c2, c3, c4, c5, -⟩ := HB1.out.p18
    go_upto_region 13 with fail
    clear c0 c2 c3 c4 c5
    obtain ⟨M, hMm⟩ : ∃ M, m = M := ⟨_, rfl⟩
    rw [hMm] at HO ⊢
    have HLen := hide (show (textL p.topic).length = M by rw [HT.out]; exact hMm)
    generalize textL p.topic = ys at *
    obtain ⟨c0, -, c2, c3, c4, c5, -⟩ := HB1.out.p18
    go_wp2_with (first
      | (refine wpList_toBs rfl (.tmp 46) 9 28 5 rfl (str p.payload) rfl Try.underlying9 Try.underlying28 Try.underlying5 ?_; rw [str_size, HL.out, str_data]; intro c9 w9 r9 b9 _; have HO := hide (own_keep HO.out b9); have BZ := hide (BZ.out.trans (b9.mono hz1)); have hz9 := Nat.le_trans hz1 b9.size)
      | (at_builtin; refine wpList_appN rfl (.tmp 43) (.tmp 47) 28 rfl 5 _ _ Try.underlying28 u8_info rfl z A1 M k1 (bv ys) rfl HO.out _ l _ (bv p.payload) rfl r9 (bv_one _) (M + l) rfl (by unfold maxLen; omega) (by omega) hz9 ?_; intro A5 k5 X5 o5 b5; rw [← bv_append] at o5))
    go_ret
    rw [HBL.out] at o5
    have hlen : BL.length = M + l := by rw [← HBL.out, List.length_append, HLen.out, HL.out]
    rw [hlen]
    exact ⟨A5, k5, rfl, own_cap o5, own_rd o5, below_on BW.out (by rw [Hz.out]; exact BZ.out.trans b5)⟩

end Go.Proofs.Ytkgidimaiedocaa

namespace Go.Proofs.Ytkgidimaiedocaa
set_option linter.unusedVariables false
set_option linter.unusedSimpArgs false
open Go.RowKit

/-- A row of the call's own, so far ys. -/
def BdR (z : Nat) (W wr : World) (v : Value) (n : Nat) (ys : List UInt8) : Prop := ∃ (A : Option Addr) (c : Nat), v = .slice A n c ∧ ys.length = n ∧ wr.ownsRow z 5 1 (.slice A n c) n (bv ys) ∧ Below z W wr

theorem flat_take (t : Int) (l : List (List UInt8 × Int)) (k : Nat) (h : k < l.length) : (l.take (k + 1)).flatMap (subL t) = (l.take k).flatMap (subL t) ++ subL t l[k] := by
  rw [← List.take_append_getElem h, List.flatMap_append]
  simp

set_option maxRecDepth 100000 in
set_option maxHeartbeats 8000000 in
theorem body8 (p : Pk) (C : Option Addr) (nc kc : Nat) (S : Option Addr) (ns ks : Nat) (w : World) (ht : p.ty = 8 ∨ p.ty = 9 ∨ p.ty = 10) (hi : 0 ≤ p.id ∧ p.id ≤ 65535) (hM : PkM w p C nc kc S ns ks) (h1 : ∀ s ∈ p.subs, s.1.length ≤ 65535 ∧ 0 ≤ s.2 ∧ s.2 ≤ 2) (h2 : ∀ c ∈ p.codes, 0 ≤ c ∧ c ≤ 255) (hns : ns ≤ 1048576) (hnc : nc ≤ 1048576) : Calls Try.prog 38 #[pkA p C nc kc S ns ks] w (RetSl (bodyP p).length (bv (bodyP p)) w) := by
  have hb : bodyP p = wordI p.id ++ p.subs.flatMap (subL p.ty) ++ p.codes.map byteI := by unfold bodyP; rw [if_neg (by omega), if_neg (by omega), if_neg (by omega), if_neg (by omega), if_pos ht]
  obtain ⟨BL, hBL⟩ : ∃ BL, bodyP p = BL := ⟨_, rfl⟩
  rw [hBL]
  rw [hb] at hBL
  have HBL := hide hBL
  have P := fun W => word_l p.id hi.1 hi.2 W
  have H1 := hide h1
  have H2 := hide h2
  obtain ⟨m1, m2, m3, m4, m5, m6⟩ := hM
  have M1 := hide m1
  have M4 := hide m4
  have M3 := hide m3
  have M6 := hide m6
  clear hb hBL hi h1 h2 m1 m2 m3 m4 m5 m6
  rcases ht with ht | ht | ht
  · skip
    have Ht := hide ht
    clear ht
    go_enter Try.func38, Try.ntmps38
    simp only [pkA]
    go_upto_region 2 with fail
    generalize hW : w.alloc _ = W
    obtain ⟨g, hg, hB, bW, -⟩ := boxedP (p := p) hW
    have bw : Below w.heap.size w W := by rw [hg]; exact bW
    rw [hg]
    have HB := hide hB
    have BW := hide bw
    clear hW hg hB bW bw
    obtain ⟨c0, -, c2, -⟩ := HB.out.p18
    rw [Ht.out] at c0
    have P := P W
    go_wp2_with fail
    refine P.mono ?_
    rintro e W1 ⟨rfl, kk, b1⟩
    have o1 := kk.own (Nat.le_refl _) 2 rfl (by decide)
    obtain ⟨z, hz⟩ : ∃ z, W.heap.size = z := ⟨_, rfl⟩
    have Hz := hide hz
    rw [hz] at o1 b1 ⊢
    have Hgz := hide (show g < z by rw [← hz]; exact HB.out.lt)
    have BX := hide (show BdR z W W1 (.slice (some ⟨z, 0, none⟩) 2 2) 2 (wordI p.id) from ⟨_, _, rfl, rfl, o1, b1⟩)
    have Hzz := hide (show ∀ X, Below z W X → z ≤ X.heap.size from fun X b => by have := b.size; rwa [hz] at this)
    have BM := hide (show ∀ X, Below z W X → Below w.heap.size w X from fun X b => below_on BW.out (by rw [hz]; exact b))
    have KB := hide (show ∀ X, Below z W X → Blk X g 35 (pkVs p C nc kc S ns ks) from fun X b => HB.out.keepB b Hgz.out)
    clear P kk o1 b1 hz c0 c2 HB
    go_wp2_with fail
    go_loopw [4, 3] (fun i v wr => ∃ k n : Nat, i = .int .i64 (k : Int) ∧ k ≤ ns ∧ n ≤ 2 + k * 65538 ∧ BdR z W wr v n (wordI p.id ++ (p.subs.take k).flatMap (subL p.ty))) (fun i _ _ => ns - (intOf i).toNat)
    case atStart => exact ⟨0, 2, rfl, by omega, by omega, by simpa using BX.out⟩
    case round =>
      obtain ⟨k, n, rfl, hkn, hnb, A, c, rfl, hlen, ho, hbr⟩ := hrel
      have HO := hide ho
      have HLen := hide hlen
      have HBr := hide hbr
      have hz1 := Hzz.out _ hbr
      clear ho hlen hbr BX
      obtain ⟨c0, -, -, -, -, -, -, -, -, -, -, -, -, -, -, -, -, c17⟩ := (KB.out _ HBr.out).p18
      rw [Ht.out] at c0
      by_cases hlt : k < ns
      · have q1 : (k : Int) < (ns : Int) := by omega
        have hlt' : k < p.subs.length := by rw [M4.out]; exact hlt
        obtain ⟨b, o, rfl, hbl, hc⟩ := M6.out.at_ (k := k * 2) (by omega)
        obtain ⟨g0, g1⟩ := subVs_get p.subs k hlt'
        have BB := BM.out _ HBr.out
        have cA : wr.cell? ⟨b, o + k * 2, none⟩ = some (.string (str p.subs[k].1)) := (BB.cell (p := ⟨b, o + k * 2, none⟩) hbl).trans (hc _ _ g0)
        have cB : ∀ X, Below z W X → X.cell? ⟨b, o + k * 2 + 1, none⟩ = some (.int .i64 p.subs[k].2) := fun X hX => ((BM.out X hX).cell (p := ⟨b, o + k * 2 + 1, none⟩) hbl).trans (hc _ _ g1)
        have htk := flat_take p.ty p.subs k hlt'
        have hs := H1.out p.subs[k] (List.getElem_mem hlt')
        generalize p.subs[k] = s at *
        obtain ⟨f, q⟩ := s
        obtain ⟨hs1, hs2, hs3⟩ := hs
        simp only at cA cB htk hs1 hs2 hs3
        obtain ⟨qn, rfl⟩ : ∃ qn : Nat, q = (qn : Int) := ⟨q.toNat, by omega⟩
        have Htk := hide htk
        have CB := hide cB
        obtain ⟨l, hl⟩ : ∃ l, 2 + f.length = l := ⟨_, rfl⟩
        have PT := text_m f l hl hs1 wr
        have hl2 : l ≤ 65537 := by omega
        have HL := hide hl
        clear BB hbl hc g0 g1 htk hlt' hl hs1 hs2
        go_wp2_with fail
        refine PT.mono ?_
        rintro e X1 ⟨D, kd, rfl, rr, bb⟩
        have HBr := hide (HBr.out.trans (bb.mono hz1))
        have HO := hide (own_keep HO.out bb)
        have hz1 := Nat.le_trans hz1 bb.size
        clear bb PT c0 c17 cA cB
        go_wp2_with (first
          | (at_builtin; refine wpList_appN rfl (.tmp 72) (.tmp 79) 28 rfl 5 _ _ Try.underlying28 u8_info rfl z A n c _ rfl HO.out _ l _ (bv (textL f)) rfl rr (bv_one _) (n + l) rfl (by unfold maxLen; omega) (by omega) hz1 ?_; intro A3 c3 X3 o3 b3; rw [← bv_append] at o3; have HBr := hide (HBr.out.trans b3); have HO := hide o3; have hz1 := Nat.le_trans hz1 b3.size; clear o3 b3 rr; obtain ⟨c0, -, -, -, -, -, -, -, -, -, -, -, -, -, -, -, -, c17⟩ := (KB.out _ HBr.out).p18; rw [Ht.out] at c0; have cB := CB.out _ HBr.out)
          | (at_builtin; refine wpList_appN rfl (.tmp 84) (.tmp 92) 28 rfl 5 _ _ Try.underlying28 u8_info rfl z A3 (n + l) c3 _ rfl (HO.out.alloc _) (some ⟨X3.heap.size, 0, none⟩) 1 1 [.int .u8 (qn : Int)] rfl (Blk.new X3 5 [.int .u8 (qn : Int)]).rd (by simp [Value.oneCell']) (n + l + 1) rfl (by unfold maxLen; omega) (by omega) (by simp; omega) ?_; intro A4 c4 X4 o4 b4; have HO := hide o4; have HBr := hide (HBr.out.trans (((Below.refl _ _).alloc hz1 _).trans b4)); clear o4 b4))
        have e8 : ∀ ys : List UInt8, bv ys ++ [Value.int .u8 (qn : Int)] = bv (ys ++ [byteI (qn : Int)]) := fun ys => by rw [bv_append, bv_cons, show byteI (qn : Int) = UInt8.ofNat qn from rfl, u8cell (by omega)]; rfl
        have E8 := hide e8
        clear e8
        refine ⟨⟨k + 1, n + l + 1, by go_num, by omega, by omega, A4, c4, rfl, ?_, ?_, HBr.out⟩, by simp [intOf]; omega⟩
        · rw [Htk.out]
          have := HLen.out
          simp only [List.length_append] at this ⊢
          rw [← this, ← HL.out, subL, List.length_append, textL_len, if_pos Ht.out]
          simp only [List.length_singleton]
          omega
        · have := HO.out
          rw [E8.out] at this
          rw [Htk.out, subL, if_pos Ht.out, ← List.append_assoc, ← List.append_assoc]
          exact this
      · obtain rfl : k = ns := by omega
        have q1 : ¬ (k : Int) < (k : Int) := by omega
        have hz2 := hz1
        have HO : Hid (wr.ownsRow z 5 1 (.slice A n c) n (bv (wordI p.id ++ p.subs.flatMap (subL p.ty)))) := hide (by have := HO.out; rwa [List.take_of_length_le (by rw [M4.out]; exact Nat.le_refl _)] at this)
        have HLen : Hid ((wordI p.id ++ p.subs.flatMap (subL p.ty)).length = n) := hide (by have := HLen.out; rwa [List.take_of_length_le (by rw [M4.out]; exact Nat.le_refl _)] at this)
        have hnb2 : n ≤ 70000000000 := by omega
        generalize wordI p.id ++ p.subs.flatMap (subL p.ty) = ys at *
        have BX := hide (show BdR z W wr (.slice A n c) n ys from ⟨_, _, rfl, HLen.out, HO.out, HBr.out⟩)
        clear HLen HO HBr hz1 hz2 hnb
        go_wp2_with fail
        go_loopw [5, 3] (fun i v wr => ∃ j : Nat, i = .int .i64 (j : Int) ∧ j ≤ nc ∧ BdR z W wr v (n + j) (ys ++ (p.codes.take j).map byteI)) (fun i _ _ => nc - (intOf i).toNat)
        case atStart => exact ⟨0, rfl, by omega, by simpa using BX.out⟩
        case round =>
          obtain ⟨j, rfl, hjn, A2, c2, rfl, hlen, ho, hbr⟩ := hrel
          have HO := hide ho
          have HLen := hide hlen
          have HBr := hide hbr
          have hz1 := Hzz.out _ hbr
          clear ho hlen hbr BX c0 c17
          obtain ⟨-, -, -, -, -, -, -, -, -, -, -, -, -, -, -, -, c16, -⟩ := (KB.out _ HBr.out).p18
          by_cases hlt : j < nc
          · have q2 : (j : Int) < (nc : Int) := by omega
            have hlt' : j < p.codes.length := by rw [M1.out]; exact hlt
            obtain ⟨b, o, rfl, hbl, hc⟩ := M3.out.at_ (k := j) hlt
            have BB := BM.out _ HBr.out
            have cA : wr.cell? ⟨b, o + j, none⟩ = some (.int .i64 p.codes[j]) := (BB.cell (p := ⟨b, o + j, none⟩) hbl).trans (hc _ _ (iv_get _ _ hlt'))
            have htk : p.codes.take (j + 1) = p.codes.take j ++ [p.codes[j]] := (List.take_append_getElem hlt').symm
            have hs := H2.out p.codes[j] (List.getElem_mem hlt')
            generalize p.codes[j] = q at *
            obtain ⟨qn, rfl⟩ : ∃ qn : Nat, q = (qn : Int) := ⟨q.toNat, by omega⟩
            have hq : qn ≤ 255 := by omega
            have Htk := hide htk
            clear BB hbl hc htk hlt' hs
            go_wp2_with (at_builtin; refine wpList_appN rfl (.tmp 101) (.tmp 108) 28 rfl 5 _ _ Try.underlying28 u8_info rfl z A2 (n + j) c2 _ rfl (HO.out.alloc _) (some ⟨wr.heap.size, 0, none⟩) 1 1 [.int .u8 (qn : Int)] rfl (Blk.new wr 5 [.int .u8 (qn : Int)]).rd (by simp [Value.oneCell']) (n + j + 1) rfl (by unfold maxLen; omega) (by omega) (by simp; omega) ?_; intro A4 c4 X4 o4 b4; have HO := hide o4; have HBr := hide (HBr.out.trans (((Below.refl _ _).alloc hz1 _).trans b4)); clear o4 b4)
            have e8 : ∀ ys : List UInt8, bv ys ++ [Value.int .u8 (qn : Int)] = bv (ys ++ [byteI (qn : Int)]) := fun ys => by rw [bv_append, bv_cons, show byteI (qn : Int) = UInt8.ofNat qn from rfl, u8cell (by omega)]; rfl
            have E8 := hide e8
            clear e8
            refine ⟨⟨j + 1, by go_num, by omega, A4, c4, rfl, ?_, ?_, HBr.out⟩, by simp [intOf]; omega⟩
            · rw [Htk.out, List.map_append, ← List.append_assoc, List.length_append, HLen.out]
              rfl
            · have := HO.out
              rw [E8.out] at this
              rw [Htk.out, List.map_append, ← List.append_assoc]
              exact this
          · obtain rfl : j = nc := by omega
            have q2 : ¬ (j : Int) < (j : Int) := by omega
            have hall : ys ++ (p.codes.take j).map byteI = BL := by rw [List.take_of_length_le (by rw [M1.out]; exact Nat.le_refl _)]; exact HBL.out
            rw [hall] at HO HLen
            clear hall
            go_wp2_with fail
            go_ret
            rw [HLen.out]
            exact ⟨A2, c2, rfl, own_cap HO.out, own_rd HO.out, BM.out _ HBr.out⟩
  · skip
    have Ht := hide ht
    clear ht
    go_enter Try.func38, Try.ntmps38
    simp only [pkA]
    go_upto_region 2 with fail
    generalize hW : w.alloc _ = W
    obtain ⟨g, hg, hB, bW, -⟩ := boxedP (p := p) hW
    have bw : Below w.heap.size w W := by rw [hg]; exact bW
    rw [hg]
    have HB := hide hB
    have BW := hide bw
    clear hW hg hB bW bw
    obtain ⟨c0, -, c2, -⟩ := HB.out.p18
    rw [Ht.out] at c0
    have P := P W
    go_wp2_with fail
    refine P.mono ?_
    rintro e W1 ⟨rfl, kk, b1⟩
    have o1 := kk.own (Nat.le_refl _) 2 rfl (by decide)
    obtain ⟨z, hz⟩ : ∃ z, W.heap.size = z := ⟨_, rfl⟩
    have Hz := hide hz
    rw [hz] at o1 b1 ⊢
    have Hgz := hide (show g < z by rw [← hz]; exact HB.out.lt)
    have BX := hide (show BdR z W W1 (.slice (some ⟨z, 0, none⟩) 2 2) 2 (wordI p.id) from ⟨_, _, rfl, rfl, o1, b1⟩)
    have Hzz := hide (show ∀ X, Below z W X → z ≤ X.heap.size from fun X b => by have := b.size; rwa [hz] at this)
    have BM := hide (show ∀ X, Below z W X → Below w.heap.size w X from fun X b => below_on BW.out (by rw [hz]; exact b))
    have KB := hide (show ∀ X, Below z W X → Blk X g 35 (pkVs p C nc kc S ns ks) from fun X b => HB.out.keepB b Hgz.out)
    clear P kk o1 b1 hz c0 c2 HB
    go_wp2_with fail
    go_loopw [4, 3] (fun i v wr => ∃ k n : Nat, i = .int .i64 (k : Int) ∧ k ≤ ns ∧ n ≤ 2 + k * 65538 ∧ BdR z W wr v n (wordI p.id ++ (p.subs.take k).flatMap (subL p.ty))) (fun i _ _ => ns - (intOf i).toNat)
    case atStart => exact ⟨0, 2, rfl, by omega, by omega, by simpa using BX.out⟩
    case round =>
      obtain ⟨k, n, rfl, hkn, hnb, A, c, rfl, hlen, ho, hbr⟩ := hrel
      have HO := hide ho
      have HLen := hide hlen
      have HBr := hide hbr
      have hz1 := Hzz.out _ hbr
      clear ho hlen hbr BX
      obtain ⟨c0, -, -, -, -, -, -, -, -, -, -, -, -, -, -, -, -, c17⟩ := (KB.out _ HBr.out).p18
      rw [Ht.out] at c0
      by_cases hlt : k < ns
      · have q1 : (k : Int) < (ns : Int) := by omega
        have hlt' : k < p.subs.length := by rw [M4.out]; exact hlt
        obtain ⟨b, o, rfl, hbl, hc⟩ := M6.out.at_ (k := k * 2) (by omega)
        obtain ⟨g0, g1⟩ := subVs_get p.subs k hlt'
        have BB := BM.out _ HBr.out
        have cA : wr.cell? ⟨b, o + k * 2, none⟩ = some (.string (str p.subs[k].1)) := (BB.cell (p := ⟨b, o + k * 2, none⟩) hbl).trans (hc _ _ g0)
        have cB : ∀ X, Below z W X → X.cell? ⟨b, o + k * 2 + 1, none⟩ = some (.int .i64 p.subs[k].2) := fun X hX => ((BM.out X hX).cell (p := ⟨b, o + k * 2 + 1, none⟩) hbl).trans (hc _ _ g1)
        have htk := flat_take p.ty p.subs k hlt'
        have hs := H1.out p.subs[k] (List.getElem_mem hlt')
        generalize p.subs[k] = s at *
        obtain ⟨f, q⟩ := s
        obtain ⟨hs1, hs2, hs3⟩ := hs
        simp only at cA cB htk hs1 hs2 hs3
        obtain ⟨qn, rfl⟩ : ∃ qn : Nat, q = (qn : Int) := ⟨q.toNat, by omega⟩
        have Htk := hide htk
        have CB := hide cB
        obtain ⟨l, hl⟩ : ∃ l, 2 + f.length = l := ⟨_, rfl⟩
        have PT := text_m f l hl hs1 wr
        have hl2 : l ≤ 65537 := by omega
        have HL := hide hl
        clear BB hbl hc g0 g1 htk hlt' hl hs1 hs2
        go_wp2_with fail
        refine PT.mono ?_
        rintro e X1 ⟨D, kd, rfl, rr, bb⟩
        have HBr := hide (HBr.out.trans (bb.mono hz1))
        have HO := hide (own_keep HO.out bb)
        have hz1 := Nat.le_trans hz1 bb.size
        clear bb PT c0 c17 cA cB
        go_wp2_with (at_builtin; refine wpList_appN rfl (.tmp 72) (.tmp 79) 28 rfl 5 _ _ Try.underlying28 u8_info rfl z A n c _ rfl HO.out _ l _ (bv (textL f)) rfl rr (bv_one _) (n + l) rfl (by unfold maxLen; omega) (by omega) hz1 ?_; intro A3 c3 X3 o3 b3; rw [← bv_append] at o3; have HBr := hide (HBr.out.trans b3); have HO := hide o3; have hz1 := Nat.le_trans hz1 b3.size; clear o3 b3 rr; obtain ⟨c0, -⟩ := (KB.out _ HBr.out).p18; rw [Ht.out] at c0)
        have hne : ¬ p.ty = 8 := by rw [Ht.out]; omega
        refine ⟨⟨k + 1, n + l, by go_num, by omega, by omega, A3, c3, rfl, ?_, ?_, HBr.out⟩, by simp [intOf]; omega⟩
        · rw [Htk.out]
          have := HLen.out
          simp only [List.length_append] at this ⊢
          rw [← this, ← HL.out, subL, List.length_append, textL_len, if_neg hne]
          simp only [List.length_nil]
          omega
        · rw [Htk.out, subL, if_neg hne, List.append_nil, ← List.append_assoc]
          exact HO.out
      · obtain rfl : k = ns := by omega
        have q1 : ¬ (k : Int) < (k : Int) := by omega
        have hz2 := hz1
        have HO : Hid (wr.ownsRow z 5 1 (.slice A n c) n (bv (wordI p.id ++ p.subs.flatMap (subL p.ty)))) := hide (by have := HO.out; rwa [List.take_of_length_le (by rw [M4.out]; exact Nat.le_refl _)] at this)
        have HLen : Hid ((wordI p.id ++ p.subs.flatMap (subL p.ty)).length = n) := hide (by have := HLen.out; rwa [List.take_of_length_le (by rw [M4.out]; exact Nat.le_refl _)] at this)
        have hnb2 : n ≤ 70000000000 := by omega
        generalize wordI p.id ++ p.subs.flatMap (subL p.ty) = ys at *
        have BX := hide (show BdR z W wr (.slice A n c) n ys from ⟨_, _, rfl, HLen.out, HO.out, HBr.out⟩)
        clear HLen HO HBr hz1 hz2 hnb
        go_wp2_with fail
        go_loopw [5, 3] (fun i v wr => ∃ j : Nat, i = .int .i64 (j : Int) ∧ j ≤ nc ∧ BdR z W wr v (n + j) (ys ++ (p.codes.take j).map byteI)) (fun i _ _ => nc - (intOf i).toNat)
        case atStart => exact ⟨0, rfl, by omega, by simpa using BX.out⟩
        case round =>
          obtain ⟨j, rfl, hjn, A2, c2, rfl, hlen, ho, hbr⟩ := hrel
          have HO := hide ho
          have HLen := hide hlen
          have HBr := hide hbr
          have hz1 := Hzz.out _ hbr
          clear ho hlen hbr BX c0 c17
          obtain ⟨-, -, -, -, -, -, -, -, -, -, -, -, -, -, -, -, c16, -⟩ := (KB.out _ HBr.out).p18
          by_cases hlt : j < nc
          · have q2 : (j : Int) < (nc : Int) := by omega
            have hlt' : j < p.codes.length := by rw [M1.out]; exact hlt
            obtain ⟨b, o, rfl, hbl, hc⟩ := M3.out.at_ (k := j) hlt
            have BB := BM.out _ HBr.out
            have cA : wr.cell? ⟨b, o + j, none⟩ = some (.int .i64 p.codes[j]) := (BB.cell (p := ⟨b, o + j, none⟩) hbl).trans (hc _ _ (iv_get _ _ hlt'))
            have htk : p.codes.take (j + 1) = p.codes.take j ++ [p.codes[j]] := (List.take_append_getElem hlt').symm
            have hs := H2.out p.codes[j] (List.getElem_mem hlt')
            generalize p.codes[j] = q at *
            obtain ⟨qn, rfl⟩ : ∃ qn : Nat, q = (qn : Int) := ⟨q.toNat, by omega⟩
            have hq : qn ≤ 255 := by omega
            have Htk := hide htk
            clear BB hbl hc htk hlt' hs
            go_wp2_with (at_builtin; refine wpList_appN rfl (.tmp 101) (.tmp 108) 28 rfl 5 _ _ Try.underlying28 u8_info rfl z A2 (n + j) c2 _ rfl (HO.out.alloc _) (some ⟨wr.heap.size, 0, none⟩) 1 1 [.int .u8 (qn : Int)] rfl (Blk.new wr 5 [.int .u8 (qn : Int)]).rd (by simp [Value.oneCell']) (n + j + 1) rfl (by unfold maxLen; omega) (by omega) (by simp; omega) ?_; intro A4 c4 X4 o4 b4; have HO := hide o4; have HBr := hide (HBr.out.trans (((Below.refl _ _).alloc hz1 _).trans b4)); clear o4 b4)
            have e8 : ∀ ys : List UInt8, bv ys ++ [Value.int .u8 (qn : Int)] = bv (ys ++ [byteI (qn : Int)]) := fun ys => by rw [bv_append, bv_cons, show byteI (qn : Int) = UInt8.ofNat qn from rfl, u8cell (by omega)]; rfl
            have E8 := hide e8
            clear e8
            refine ⟨⟨j + 1, by go_num, by omega, A4, c4, rfl, ?_, ?_, HBr.out⟩, by simp [intOf]; omega⟩
            · rw [Htk.out, List.map_append, ← List.append_assoc, List.length_append, HLen.out]
              rfl
            · have := HO.out
              rw [E8.out] at this
              rw [Htk.out, List.map_append, ← List.append_assoc]
              exact this
          · obtain rfl : j = nc := by omega
            have q2 : ¬ (j : Int) < (j : Int) := by omega
            have hall : ys ++ (p.codes.take j).map byteI = BL := by rw [List.take_of_length_le (by rw [M1.out]; exact Nat.le_refl _)]; exact HBL.out
            rw [hall] at HO HLen
            clear hall
            go_wp2_with fail
            go_ret
            rw [HLen.out]
            exact ⟨A2, c2, rfl, own_cap HO.out, own_rd HO.out, BM.out _ HBr.out⟩
  · skip
    have Ht := hide ht
    clear ht
    go_enter Try.func38, Try.ntmps38
    simp only [pkA]
    go_upto_region 2 with fail
    generalize hW : w.alloc _ = W
    obtain ⟨g, hg, hB, bW, -⟩ := boxedP (p := p) hW
    have bw : Below w.heap.size w W := by rw [hg]; exact bW
    rw [hg]
    have HB := hide hB
    have BW := hide bw
    clear hW hg hB bW bw
    obtain ⟨c0, -, c2, -⟩ := HB.out.p18
    rw [Ht.out] at c0
    have P := P W
    go_wp2_with fail
    refine P.mono ?_
    rintro e W1 ⟨rfl, kk, b1⟩
    have o1 := kk.own (Nat.le_refl _) 2 rfl (by decide)
    obtain ⟨z, hz⟩ : ∃ z, W.heap.size = z := ⟨_, rfl⟩
    have Hz := hide hz
    rw [hz] at o1 b1 ⊢
    have Hgz := hide (show g < z by rw [← hz]; exact HB.out.lt)
    have BX := hide (show BdR z W W1 (.slice (some ⟨z, 0, none⟩) 2 2) 2 (wordI p.id) from ⟨_, _, rfl, rfl, o1, b1⟩)
    have Hzz := hide (show ∀ X, Below z W X → z ≤ X.heap.size from fun X b => by have := b.size; rwa [hz] at this)
    have BM := hide (show ∀ X, Below z W X → Below w.heap.size w X from fun X b => below_on BW.out (by rw [hz]; exact b))
    have KB := hide (show ∀ X, Below z W X → Blk X g 35 (pkVs p C nc kc S ns ks) from fun X b => HB.out.keepB b Hgz.out)
    clear P kk o1 b1 hz c0 c2 HB
    go_wp2_with fail
    go_loopw [4, 3] (fun i v wr => ∃ k n : Nat, i = .int .i64 (k : Int) ∧ k ≤ ns ∧ n ≤ 2 + k * 65538 ∧ BdR z W wr v n (wordI p.id ++ (p.subs.take k).flatMap (subL p.ty))) (fun i _ _ => ns - (intOf i).toNat)
    case atStart => exact ⟨0, 2, rfl, by omega, by omega, by simpa using BX.out⟩
    case round =>
      obtain ⟨k, n, rfl, hkn, hnb, A, c, rfl, hlen, ho, hbr⟩ := hrel
      have HO := hide ho
      have HLen := hide hlen
      have HBr := hide hbr
      have hz1 := Hzz.out _ hbr
      clear ho hlen hbr BX
      obtain ⟨c0, -, -, -, -, -, -, -, -, -, -, -, -, -, -, -, -, c17⟩ := (KB.out _ HBr.out).p18
      rw [Ht.out] at c0
      by_cases hlt : k < ns
      · have q1 : (k : Int) < (ns : Int) := by omega
        have hlt' : k < p.subs.length := by rw [M4.out]; exact hlt
        obtain ⟨b, o, rfl, hbl, hc⟩ := M6.out.at_ (k := k * 2) (by omega)
        obtain ⟨g0, g1⟩ := subVs_get p.subs k hlt'
        have BB := BM.out _ HBr.out
        have cA : wr.cell? ⟨b, o + k * 2, none⟩ = some (.string (str p.subs[k].1)) := (BB.cell (p := ⟨b, o + k * 2, none⟩) hbl).trans (hc _ _ g0)
        have cB : ∀ X, Below z W X → X.cell? ⟨b, o + k * 2 + 1, none⟩ = some (.int .i64 p.subs[k].2) := fun X hX => ((BM.out X hX).cell (p := ⟨b, o + k * 2 + 1, none⟩) hbl).trans (hc _ _ g1)
        have htk := flat_take p.ty p.subs k hlt'
        have hs := H1.out p.subs[k] (List.getElem_mem hlt')
        generalize p.subs[k] = s at *
        obtain ⟨f, q⟩ := s
        obtain ⟨hs1, hs2, hs3⟩ := hs
        simp only at cA cB htk hs1 hs2 hs3
        obtain ⟨qn, rfl⟩ : ∃ qn : Nat, q = (qn : Int) := ⟨q.toNat, by omega⟩
        have Htk := hide htk
        have CB := hide cB
        obtain ⟨l, hl⟩ : ∃ l, 2 + f.length = l := ⟨_, rfl⟩
        have PT := text_m f l hl hs1 wr
        have hl2 : l ≤ 65537 := by omega
        have HL := hide hl
        clear BB hbl hc g0 g1 htk hlt' hl hs1 hs2
        go_wp2_with fail
        refine PT.mono ?_
        rintro e X1 ⟨D, kd, rfl, rr, bb⟩
        have HBr := hide (HBr.out.trans (bb.mono hz1))
        have HO := hide (own_keep HO.out bb)
        have hz1 := Nat.le_trans hz1 bb.size
        clear bb PT c0 c17 cA cB
        go_wp2_with (at_builtin; refine wpList_appN rfl (.tmp 72) (.tmp 79) 28 rfl 5 _ _ Try.underlying28 u8_info rfl z A n c _ rfl HO.out _ l _ (bv (textL f)) rfl rr (bv_one _) (n + l) rfl (by unfold maxLen; omega) (by omega) hz1 ?_; intro A3 c3 X3 o3 b3; rw [← bv_append] at o3; have HBr := hide (HBr.out.trans b3); have HO := hide o3; have hz1 := Nat.le_trans hz1 b3.size; clear o3 b3 rr; obtain ⟨c0, -⟩ := (KB.out _ HBr.out).p18; rw [Ht.out] at c0)
        have hne : ¬ p.ty = 8 := by rw [Ht.out]; omega
        refine ⟨⟨k + 1, n + l, by go_num, by omega, by omega, A3, c3, rfl, ?_, ?_, HBr.out⟩, by simp [intOf]; omega⟩
        · rw [Htk.out]
          have := HLen.out
          simp only [List.length_append] at this ⊢
          rw [← this, ← HL.out, subL, List.length_append, textL_len, if_neg hne]
          simp only [List.length_nil]
          omega
        · rw [Htk.out, subL, if_neg hne, List.append_nil, ← List.append_assoc]
          exact HO.out
      · obtain rfl : k = ns := by omega
        have q1 : ¬ (k : Int) < (k : Int) := by omega
        have hz2 := hz1
        have HO : Hid (wr.ownsRow z 5 1 (.slice A n c) n (bv (wordI p.id ++ p.subs.flatMap (subL p.ty)))) := hide (by have := HO.out; rwa [List.take_of_length_le (by rw [M4.out]; exact Nat.le_refl _)] at this)
        have HLen : Hid ((wordI p.id ++ p.subs.flatMap (subL p.ty)).length = n) := hide (by have := HLen.out; rwa [List.take_of_length_le (by rw [M4.out]; exact Nat.le_refl _)] at this)
        have hnb2 : n ≤ 70000000000 := by omega
        generalize wordI p.id ++ p.subs.flatMap (subL p.ty) = ys at *
        have BX := hide (show BdR z W wr (.slice A n c) n ys from ⟨_, _, rfl, HLen.out, HO.out, HBr.out⟩)
        clear HLen HO HBr hz1 hz2 hnb
        go_wp2_with fail
        go_loopw [5, 3] (fun i v wr => ∃ j : Nat, i = .int .i64 (j : Int) ∧ j ≤ nc ∧ BdR z W wr v (n + j) (ys ++ (p.codes.take j).map byteI)) (fun i _ _ => nc - (intOf i).toNat)
        case atStart => exact ⟨0, rfl, by omega, by simpa using BX.out⟩
        case round =>
          obtain ⟨j, rfl, hjn, A2, c2, rfl, hlen, ho, hbr⟩ := hrel
          have HO := hide ho
          have HLen := hide hlen
          have HBr := hide hbr
          have hz1 := Hzz.out _ hbr
          clear ho hlen hbr BX c0 c17
          obtain ⟨-, -, -, -, -, -, -, -, -, -, -, -, -, -, -, -, c16, -⟩ := (KB.out _ HBr.out).p18
          by_cases hlt : j < nc
          · have q2 : (j : Int) < (nc : Int) := by omega
            have hlt' : j < p.codes.length := by rw [M1.out]; exact hlt
            obtain ⟨b, o, rfl, hbl, hc⟩ := M3.out.at_ (k := j) hlt
            have BB := BM.out _ HBr.out
            have cA : wr.cell? ⟨b, o + j, none⟩ = some (.int .i64 p.codes[j]) := (BB.cell (p := ⟨b, o + j, none⟩) hbl).trans (hc _ _ (iv_get _ _ hlt'))
            have htk : p.codes.take (j + 1) = p.codes.take j ++ [p.codes[j]] := (List.take_append_getElem hlt').symm
            have hs := H2.out p.codes[j] (List.getElem_mem hlt')
            generalize p.codes[j] = q at *
            obtain ⟨qn, rfl⟩ : ∃ qn : Nat, q = (qn : Int) := ⟨q.toNat, by omega⟩
            have hq : qn ≤ 255 := by omega
            have Htk := hide htk
            clear BB hbl hc htk hlt' hs
            go_wp2_with (at_builtin; refine wpList_appN rfl (.tmp 101) (.tmp 108) 28 rfl 5 _ _ Try.underlying28 u8_info rfl z A2 (n + j) c2 _ rfl (HO.out.alloc _) (some ⟨wr.heap.size, 0, none⟩) 1 1 [.int .u8 (qn : Int)] rfl (Blk.new wr 5 [.int .u8 (qn : Int)]).rd (by simp [Value.oneCell']) (n + j + 1) rfl (by unfold maxLen; omega) (by omega) (by simp; omega) ?_; intro A4 c4 X4 o4 b4; have HO := hide o4; have HBr := hide (HBr.out.trans (((Below.refl _ _).alloc hz1 _).trans b4)); clear o4 b4)
            have e8 : ∀ ys : List UInt8, bv ys ++ [Value.int .u8 (qn : Int)] = bv (ys ++ [byteI (qn : Int)]) := fun ys => by rw [bv_append, bv_cons, show byteI (qn : Int) = UInt8.ofNat qn from rfl, u8cell (by omega)]; rfl
            have E8 := hide e8
            clear e8
            refine ⟨⟨j + 1, by go_num, by omega, A4, c4, rfl, ?_, ?_, HBr.out⟩, by simp [intOf]; omega⟩
            · rw [Htk.out, List.map_append, ← List.append_assoc, List.length_append, HLen.out]
              rfl
            · have := HO.out
              rw [E8.out] at this
              rw [Htk.out, List.map_append, ← List.append_assoc]
              exact this
          · obtain rfl : j = nc := by omega
            have q2 : ¬ (j : Int) < (j : Int) := by omega
            have hall : ys ++ (p.codes.take j).map byteI = BL := by rw [List.take_of_length_le (by rw [M1.out]; exact Nat.le_refl _)]; exact HBL.out
            rw [hall] at HO HLen
            clear hall
            go_wp2_with fail
            go_ret
            rw [HLen.out]
            exact ⟨A2, c2, rfl, own_cap HO.out, own_rd HO.out, BM.out _ HBr.out⟩

end Go.Proofs.Ytkgidimaiedocaa

namespace Go.Proofs.Ytkgidimaiedocaa
set_option linter.unusedVariables false
set_option linter.unusedSimpArgs false
open Go.RowKit

theorem body_any (p : Pk) (C : Option Addr) (nc kc : Nat) (S : Option Addr) (ns ks : Nat) (w : World) (hM : PkM w p C nc kc S ns ks) (hs : PkU p) (h1 : 1 ≤ p.ty) (h14 : p.ty ≤ 14) (hu : p = usedP p) (hok : okP p = true) : Calls Try.prog 38 #[pkA p C nc kc S ns ks] w (RetSl (bodyP p).length (bv (bodyP p)) w) := by
  obtain ⟨-, l2, -, -, -, l6, l7, -⟩ := hs
  have ht : p.ty = 1 ∨ p.ty = 2 ∨ p.ty = 3 ∨ (p.ty = 4 ∨ p.ty = 5 ∨ p.ty = 6 ∨ p.ty = 7 ∨ p.ty = 11) ∨ (p.ty = 8 ∨ p.ty = 10) ∨ p.ty = 9 ∨ (p.ty = 12 ∨ p.ty = 13 ∨ p.ty = 14) := by omega
  unfold okP at hok
  rcases ht with ht | ht | ht | ht | ht | ht | ht
  · rw [if_pos ht] at hok
    have hq : 0 ≤ p.qos ∧ p.qos ≤ 2 := by
      unfold conB at hok
      unfold usedP at hu
      rw [if_pos ht] at hu
      cases hw : p.hasWill with
      | false =>
        have := congrArg Pk.qos hu
        rw [hw] at this
        simp at this
        omega
      | true =>
        simp only [hw, Bool.not_true, Bool.false_or, Bool.and_eq_true, decide_eq_true_eq] at hok
        exact ⟨hok.2.1.2, hok.2.2⟩
    have ha : 0 ≤ p.alive ∧ p.alive ≤ 65535 := by
      unfold conB at hok
      simp only [Bool.and_eq_true, decide_eq_true_eq] at hok
      exact hok.1.1.1.1.2
    have hk := hok
    unfold conB at hk
    simp only [Bool.and_eq_true, decide_eq_true_eq] at hk
    refine body1 p C nc kc S ns ks w ht ha hq (isStr_len hk.1.1.1.1.1) (fun hw => ?_) (isStr_len hk.1.1.2) hk.1.2
    have h6 := hk.2
    rw [hw] at h6
    simp only [Bool.not_true, Bool.false_or, Bool.and_eq_true, decide_eq_true_eq] at h6
    exact ⟨fullB_len h6.1.1.1, h6.1.1.2⟩
  · rw [if_neg (by omega), if_pos ht] at hok
    unfold ackB at hok
    cases hc : p.codes with
    | nil => rw [hc] at hok; cases hok
    | cons c t =>
      cases t with
      | cons d t => rw [hc] at hok; cases hok
      | nil =>
        rw [hc] at hok
        simp only [Bool.and_eq_true, decide_eq_true_eq] at hok
        obtain ⟨⟨h0, h5⟩, -⟩ := hok
        obtain ⟨n, rfl⟩ : ∃ n : Nat, c = (n : Int) := ⟨c.toNat, by omega⟩
        exact body2 p C nc kc S ns ks w ht n hc (by omega) hM
  · rw [if_neg (by omega), if_neg (by omega), if_pos ht] at hok
    unfold pubB idB at hok
    simp only [Bool.and_eq_true, Bool.or_eq_true, decide_eq_true_eq] at hok
    exact body3 p C nc kc S ns ks w ht (fullB_len hok.1.1.1) l2 (fun hq => by rcases hok.2 with h | h <;> omega)
  · rw [if_neg (by omega), if_neg (by omega), if_neg (by omega), if_pos ht] at hok
    unfold idB at hok
    simp only [decide_eq_true_eq] at hok
    exact body4 p C nc kc S ns ks w ht (by omega)
  · rw [if_neg (by omega), if_neg (by omega), if_neg (by omega), if_neg (by omega), if_pos ht] at hok
    unfold idB subsB at hok
    simp only [Bool.and_eq_true, decide_eq_true_eq] at hok
    unfold usedP at hu
    rw [if_neg (by omega), if_neg (by omega), if_neg (by omega), if_neg (by omega), if_pos ht] at hu
    have hc : p.codes = [] := congrArg Pk.codes hu
    refine body8 p C nc kc S ns ks w (by omega) (by omega) hM (fun s hm => ?_) (fun c hm => ?_) (by rw [← hM.2.2.2.1]; exact l7) (by rw [← hM.1]; exact l6)
    · have := List.all_eq_true.1 hok.2.1 s hm
      unfold subB at this
      simp only [Bool.and_eq_true, decide_eq_true_eq] at this
      exact ⟨fullB_len this.1.1, this.1.2⟩
    · rw [hc] at hm
      cases hm
  · rw [if_neg (by omega), if_neg (by omega), if_neg (by omega), if_neg (by omega), if_neg (by omega), if_pos ht] at hok
    unfold idB codesB at hok
    simp only [Bool.and_eq_true, decide_eq_true_eq] at hok
    unfold usedP at hu
    rw [if_neg (by omega), if_neg (by omega), if_neg (by omega), if_neg (by omega), if_neg (by omega), if_pos ht] at hu
    have hc : p.subs = [] := congrArg Pk.subs hu
    refine body8 p C nc kc S ns ks w (by omega) (by omega) hM (fun s hm => ?_) (fun c hm => ?_) (by rw [← hM.2.2.2.1]; exact l7) (by rw [← hM.1]; exact l6)
    · rw [hc] at hm
      cases hm
    · have := List.all_eq_true.1 hok.2.1 c hm
      unfold codeB at this
      simp only [Bool.and_eq_true, Bool.or_eq_true, decide_eq_true_eq] at this
      omega
  · exact body0 p C nc kc S ns ks w ht

/-- A whole packet is read: what the operation yields. -/
theorem exec_loadP {P : Program} {w : World} {o : Oper} {a : Act} (ty : TypeId) (x : Operand) (ho : o.op = .load ty x) (g : Nat) (t : TypeId) (p : Pk) (C : Option Addr) (nc kc : Nat) (S : Option Addr) (ns ks : Nat)
    (hx : a.eval x = .pointer (some ⟨g, 0, none⟩)) (hB : Blk w g t (pkVs p C nc kc S ns ks)) {d : TypeDesc} (hu : P.underlying ty = some d) (hd : d.isRow = true) (hi : (P.info? ty).map (·.size) = some 18) :
    (execOp a.eval o).run P w = .ok (.value (pkA p C nc kc S ns ks)) w := by
  have hr := run_loadAt_mid (P := P) w g 0 ty (pkVs p C nc kc S ns ks) d hB.range hu hd hi
  unfold execOp
  simp only [ho, hx, Sem.run_bind, hr, Result.andThen_ok]
  rfl

end Go.Proofs.Ytkgidimaiedocaa
