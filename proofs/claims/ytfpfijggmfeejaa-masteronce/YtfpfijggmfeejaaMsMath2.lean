/-
  What is proved here: a master as layer 7's plain functions have it, held against a list of who was sent how often and who is done: each is done once, sent so often at most, one is out at a time. No condition of its own; nothing of the program is named.
-/
import Derived.Test.YtfpfijggmfeejaaMsMath
namespace Go.Proofs.Ytfpfijggmfeejaa
set_option linter.unusedVariables false
set_option linter.unusedSimpArgs false
open Go.RowKit

def updF {α : Type} (f : Nat → α) (t : Nat) (v : α) : Nat → α := fun i => if i = t then v else f i
theorem updF_same {α : Type} (f : Nat → α) (t : Nat) (v : α) : updF f t v t = v := by simp [updF]
theorem updF_other {α : Type} (f : Nat → α) (t : Nat) (v : α) {i : Nat} (h : i ≠ t) : updF f t v i = f i := by simp [updF, h]
/-- How many of 1 to n are not done. -/
def cntF (done : Nat → Bool) : Nat → Nat
  | 0 => 0
  | n + 1 => cntF done n + (if done (n + 1) then 0 else 1)
theorem cntF_above (done : Nat → Bool) (t : Nat) (v : Bool) : ∀ n, n < t → cntF (updF done t v) n = cntF done n
  | 0, _ => rfl
  | n + 1, h => by
    unfold cntF
    rw [cntF_above done t v n (by omega), updF_other done t v (by omega)]
theorem cntF_set (done : Nat → Bool) (t : Nat) (hd : done t = false) : ∀ n, 1 ≤ t → t ≤ n → cntF (updF done t true) n + 1 = cntF done n
  | 0, h1, h2 => by omega
  | n + 1, h1, h2 => by
    unfold cntF
    by_cases h : t = n + 1
    · subst h
      rw [cntF_above done (n + 1) true n (by omega), updF_same, hd]
      simp
    · have := cntF_set done t hd n h1 (by omega)
      rw [updF_other done t true (show n + 1 ≠ t by omega)]
      omega

/-- The master, and what was seen of it. -/
structure OnceI (s : MSt) (sent : Nat → Int) (done : Nat → Bool) (out : Nat) (last : Wt) : Prop where
  ok : MOk s
  fresh : ∀ t, s.next < t → done t = false ∧ sent t = 0
  lineD : ∀ x ∈ s.line, done x.tk = false ∧ sent x.tk = 0
  outN : s.out = none → out = 0
  outS : ∀ x n, s.out = some (x, n) → out = x.tk ∧ sent x.tk = n ∧ done x.tk = false ∧ last = x
  cnt : cntF done s.next = mCount s
section
variable {s : MSt} {sent : Nat → Int} {done : Nat → Bool} {out : Nat} {last : Wt}
theorem once_new (w a r : Int) (h : mMay w a r = true) (last : Wt) : OnceI (mNew w a r) (fun _ => 0) (fun _ => false) 0 last :=
  ⟨mOk_new w a r h, fun _ _ => ⟨rfl, rfl⟩, by simp [mNew], fun _ => rfl, (fun x n hx => by cases hx), rfl⟩
theorem once_ask (h : OnceI s sent done out last) (u : Int) (r : Rq) : OnceI (askS s u r) sent done out last := by
  have hok := mOk_ask h.ok u r
  unfold askS at hok ⊢
  by_cases he : askE s u r = 0
  · rw [if_pos he] at hok ⊢
    refine ⟨hok, fun t ht => h.fresh t (by have : s.next + 1 < t := ht; omega), ?_, h.outN, h.outS, ?_⟩
    · intro x hx
      rcases List.mem_append.1 hx with hx | hx
      · exact h.lineD x hx
      · simp at hx
        subst hx
        exact h.fresh _ (Nat.lt_succ_self _)
    · show cntF done (s.next + 1) = (s.line ++ [_]).length + Go.Proofs.Ytfpfijggmfeejaa.outN s.out
      unfold cntF
      rw [h.cnt, (h.fresh (s.next + 1) (Nat.lt_succ_self _)).1, List.length_append]
      unfold mCount
      simp
      omega
  · rw [if_neg he] at hok ⊢
    exact h
theorem once_tick (h : OnceI s sent done out last) (now : Int) (hb : tickBad s now = false) : OnceI { s with now := now } sent done out last :=
  ⟨mOk_tick h.ok now hb, h.fresh, h.lineD, h.outN, h.outS, h.cnt⟩
/-- It is done (Late, or with an answer): what was out is out no more. -/
theorem once_done (h : OnceI s sent done out last) {x : Wt} {n : Int} (ho : s.out = some (x, n)) (s' : MSt) (ok' : MOk s') (hl : s'.line = s.line) (hn : s'.next = s.next) (ho' : s'.out = none) :
    OnceI s' sent (updF done x.tk true) 0 last := by
  obtain ⟨o1, o2, o3, o4⟩ := h.outS x n ho
  obtain ⟨⟨_, _, _, t1, t2⟩, _, _⟩ := h.ok.omay x n ho
  refine ⟨ok', ?_, ?_, fun _ => rfl, (fun y m hy => by rw [ho'] at hy; cases hy), ?_⟩
  · intro t ht
    rw [hn] at ht
    rw [updF_other done x.tk true (show t ≠ x.tk by omega)]
    exact h.fresh t ht
  · intro y hy
    rw [hl] at hy
    rw [updF_other done x.tk true (h.ok.apart x n ho y hy)]
    exact h.lineD y hy
  · rw [hn]
    have := cntF_set done x.tk o3 s.next t1 t2
    have hc := h.cnt
    unfold mCount at hc ⊢
    rw [hl, ho']
    rw [ho] at hc
    simp only [Go.Proofs.Ytfpfijggmfeejaa.outN] at hc ⊢
    omega
/-- One is sent first. -/
theorem once_send (h : OnceI s sent done out last) (now : Int) (hn : s.now = now) (ho : s.out = none) {a b : List Wt} {x : Wt} (hf : freeAt s.till now s.line = some (a, x, b)) :
    OnceI (sendS s now).2 (updF sent x.tk 1) done x.tk x ∧ (sendS s now).1 = [x] ∧ done x.tk = false ∧ sent x.tk = 0 ∧ x.r.may = true ∧ 1 ≤ x.tk ∧ x.tk ≤ s.next ∧ out = 0 := by
  obtain ⟨e, h1, h2⟩ := freeAt_some hf
  have hx : x ∈ s.line := by rw [e]; exact List.mem_append_right _ (List.mem_cons_self ..)
  have hok := mOk_send h.ok now hn ho
  have hap : ∀ y, y ∈ a ++ b → y.tk ≠ x.tk := by
    have := hok.apart x 1 (by unfold sendS; rw [hf])
    unfold sendS at this
    rw [hf] at this
    exact this
  obtain ⟨m1, m2, m3, m4, m5⟩ := h.ok.may x hx
  have hd := h.lineD x hx
  refine ⟨?_, by unfold sendS; rw [hf], hd.1, hd.2, m1, m4, m5, h.outN ho⟩
  unfold sendS at hok ⊢
  rw [hf] at hok ⊢
  refine ⟨hok, ?_, ?_, (fun hy => by cases hy), ?_, ?_⟩
  · intro t ht
    have ht' : s.next < t := ht
    rw [updF_other sent x.tk 1 (show t ≠ x.tk by omega)]
    exact h.fresh t ht
  · intro y hy
    rw [updF_other sent x.tk 1 (hap y hy)]
    refine h.lineD y ?_
    rw [e]
    rcases List.mem_append.1 hy with hy | hy
    · exact List.mem_append_left _ hy
    · exact List.mem_append_right _ (List.mem_cons_of_mem _ hy)
  · intro y m hy
    injection hy with hy
    injection hy with h3 h4
    subst h3 h4
    exact ⟨rfl, updF_same _ _ _, hd.1, rfl⟩
  · have hc := h.cnt
    unfold mCount at hc ⊢
    rw [e, ho, List.length_append, List.length_cons] at hc
    show cntF done s.next = (a ++ b).length + 1
    rw [List.length_append]
    simp only [Go.Proofs.Ytfpfijggmfeejaa.outN] at hc
    omega
/-- It is sent once more. -/
theorem once_again (h : OnceI s sent done out last) (now : Int) (hb : tickBad s now = false) {x : Wt} {n : Int} (ho : s.out = some (x, n)) (hw : ¬ now - s.last < s.wait) (hn : n < s.again + 1) :
    OnceI { s with now := now, out := some (x, n + 1), last := now } (updF sent x.tk (n + 1)) done x.tk x ∧ done x.tk = false ∧ sent x.tk = n ∧ x.r.may = true ∧ 1 ≤ x.tk ∧ x.tk ≤ s.next ∧ out = x.tk := by
  obtain ⟨o1, o2, o3, o4⟩ := h.outS x n ho
  obtain ⟨⟨m1, _, _, t1, t2⟩, _, _⟩ := h.ok.omay x n ho
  have hok := mOk_step h.ok now
  rw [stepR_again hb ho hw hn] at hok
  refine ⟨⟨hok, ?_, ?_, (fun hy => by cases hy), ?_, ?_⟩, o3, o2, m1, t1, t2, o1⟩
  · intro t ht
    have ht' : s.next < t := ht
    rw [updF_other sent x.tk (n + 1) (show t ≠ x.tk by omega)]
    exact h.fresh t ht
  · intro y hy
    rw [updF_other sent x.tk (n + 1) (h.ok.apart x n ho y hy)]
    exact h.lineD y hy
  · intro y m hy
    injection hy with hy
    injection hy with h3 h4
    subst h3 h4
    exact ⟨rfl, updF_same _ _ _, o3, rfl⟩
  · have hc := h.cnt
    unfold mCount at hc ⊢
    rw [ho] at hc
    exact hc
end

end Go.Proofs.Ytfpfijggmfeejaa
