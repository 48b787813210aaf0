/-
  What is proved here: a packet's message, loaded from and stored into its block. No condition of the program's.
-/
import Derived.Test.YtkgidimaiedocaaPkLd
namespace Go.Proofs.Ytkgidimaiedocaa
set_option linter.unusedVariables false
set_option linter.unusedSimpArgs false
open Go.RowKit

def msgA (p : Pk) : Value := .agg #[.string (str p.topic), .string (str p.payload), .int .i64 p.qos, .bool p.retain]
theorem Blk.msg {w : World} {g : Nat} {t : TypeId} {p : Pk} {C : Option Addr} {nc kc : Nat} {S : Option Addr} {ns ks : Nat} (h : Blk w g t (pkVs p C nc kc S ns ks)) : w.rangeAt g 3 [.string (str p.topic), .string (str p.payload), .int .i64 p.qos, .bool p.retain] := by
  intro j v hv
  rw [h.cell (3 + j)]
  rcases j with _ | _ | _ | _ | j
  · exact hv
  · exact hv
  · exact hv
  · exact hv
  · simp at hv
theorem wpList_loadM {P : Program} {w : World} {ops : Array Oper} {rest : List Oper} {o : Oper} {a : Act} {Q : Exit → Act → World → Prop} (hgd : o.guard = none) (ty : TypeId) (x : Operand) (ho : o.op = .load ty x) (g : Nat) (t : TypeId) (p : Pk) (C : Option Addr) (nc kc : Nat) (S : Option Addr) (ns ks : Nat)
    (hx : a.eval x = .pointer (some ⟨g, 3, none⟩)) (hB : Blk w g t (pkVs p C nc kc S ns ks)) {d : TypeDesc} (hu : P.underlying ty = some d) (hd : d.isRow = true) (hi : (P.info? ty).map (·.size) = some 4)
    (h : wpList P ops Q rest (a.put o.dst (msgA p)) w) : wpList P ops Q (o :: rest) a w :=
  wpList_load_mid hgd ty x ho g 3 hx _ d hB.msg hu hd hi h
theorem wpList_storeM {P : Program} {w : World} {ops : Array Oper} {rest : List Oper} {o : Oper} {a : Act} {Q : Exit → Act → World → Prop} (hgd : o.guard = none) (ty : TypeId) (x y : Operand) (ho : o.op = .store ty x y) (g : Nat) (t : TypeId) (q : Pk) (C : Option Addr) (nc kc : Nat) (S : Option Addr) (ns ks : Nat) (p : Pk)
    (hx : a.eval x = .pointer (some ⟨g, 3, none⟩)) (hy : a.eval y = msgA p) (hB : Blk w g t (pkVs q C nc kc S ns ks)) (hi : (P.info? ty).map (·.size) = some 4)
    (h : ∀ W, Blk W g t (pkVs { q with topic := p.topic, payload := p.payload, qos := p.qos, retain := p.retain } C nc kc S ns ks) → But (fun i => i = g) w W → wpList P ops Q rest (a.put o.dst undef) W) : wpList P ops Q (o :: rest) a w := by
  refine wpList_store_mid hgd ty x y ho g 3 _ hx hy (fun j hj => ⟨?_, hB.frozen _⟩) hi (all_oneCell_toArray (cs := [.string (str p.topic), .string (str p.payload), .int .i64 p.qos, .bool p.retain]) (fun v hv => by simp at hv; rcases hv with rfl | rfl | rfl | rfl <;> rfl)) (h _ ?_ ?_)
  · have hj4 : j < 4 := hj
    rw [hB.cell (3 + j)]
    rcases j with _ | _ | _ | _ | j <;> first | rfl | omega
  · exact (((hB.set 3 _).set 4 _).set 5 _).set 6 _
  · have b1 : But (fun i => i = g) w (w.setCell ⟨g, 3, none⟩ (.string (str p.topic))) := But.setCell w _ rfl
    have b2 : But (fun i => i = g) w ((w.setCell ⟨g, 3, none⟩ (.string (str p.topic))).setCell ⟨g, 4, none⟩ (.string (str p.payload))) := b1.setCell' _ rfl
    have b3 : But (fun i => i = g) w (((w.setCell ⟨g, 3, none⟩ (.string (str p.topic))).setCell ⟨g, 4, none⟩ (.string (str p.payload))).setCell ⟨g, 5, none⟩ (.int .i64 p.qos)) := b2.setCell' _ rfl
    exact b3.setCell' _ rfl

end Go.Proofs.Ytkgidimaiedocaa
