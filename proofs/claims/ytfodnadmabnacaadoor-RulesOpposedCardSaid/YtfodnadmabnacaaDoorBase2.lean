/- More general laws of my own on walks; of no program. -/
import Derived.Test.YtfodnadmabnacaaDoorBase
import Derived.Laws.ResultCell
namespace Go.Proofs.YtfodnadmabnacaaDoor.Base2
open Go.RowKit

/-- Two results, the first of which lies in a variable of more cells. -/
theorem ret_cell_tmp {P : Program} {fn : Func} {Q : Ending → World → Prop} {a : Act} {w : World} {p u : Tmp} {ty t : TypeId} {g : Nat} {cs : Array Value} {d : TypeDesc} {v : Value} (hr : fn.results = #[.cell p ty, .tmp u]) (hp : a.tmps.getD p undef = .pointer (some ⟨g, 0, none⟩)) (hu' : a.tmps.getD u undef = v) (hd : a.defers = [])
    (hg : w.heap[g]? = some (.cells cs t (0, 0))) (hu : P.underlying ty = some d) (hs : (match d with | .struct _ | .array _ _ => true | _ => false) = true) (hi : (P.info? ty).map (·.size) = some cs.size) (h : Q (.returned (.tuple #[.agg cs, v])) w) : bodyPost P fn Q .ret a w :=
  bodyPost_ret (v := .tuple #[.agg cs, v]) (by rw [results_cell_tmp hr, hp, hu']; simp [asAddr, Result.andThen, run_loadVar_row w g t ty cs (0, 0) d hg hu hs hi]) hd h
/-- A whole struct loaded under a guard that lets it. -/
theorem wpList_load_rowG {P : Program} {ops : Array Oper} {rest : List Oper} {o : Oper} {a : Act} {w : World} {Q : Exit → Act → World → Prop} (hw : Region.wanted o (yielded ops a.tmps) = true) (ty : TypeId) (x : Operand) (ho : o.op = .load ty x)
    (g : Nat) (hx : a.eval x = .pointer (some ⟨g, 0, none⟩)) (t : TypeId) (cs : Array Value) (fr : Nat × Nat) (d : TypeDesc) (hg : w.heap[g]? = some (.cells cs t fr))
    (hu : P.underlying ty = some d) (hd : (match d with | .struct _ | .array _ _ => true | _ => false) = true) (hi : (P.info? ty).map (·.size) = some cs.size)
    (h : wpList P ops Q rest (a.put o.dst (.agg cs)) w) : wpList P ops Q (o :: rest) a w :=
  BigFrame.wpList_want hw fun _ hK => wp_load_row ty x ho g hx t cs fr d hg hu hd hi (hK _ _ h)
theorem setRow_heap (W : World) (g : Nat) (ks old : Array Value) (t : TypeId) (fz : Nat × Nat) (h : W.heap[g]? = some (.cells old t fz)) : (W.setRow g ks).heap[g]? = some (.cells ks t fz) := by
  simp [World.setRow, Array.getElem?_modify, h]
theorem setRow_ne {W : World} {g k : Nat} (ks : Array Value) (h : k ≠ g) : (W.setRow g ks).heap[k]? = W.heap[k]? := by
  simp [World.setRow, Array.getElem?_modify, Ne.symm h]
/-- A quick look at a load, ahead of a law on it: nothing is changed. -/
theorem atLoad {P : Program} {ops : Array Oper} {rest : List Oper} {o : Oper} {a : Act} {w : World} {Q : Exit → Act → World → Prop} {ty : TypeId} {x : Operand} (_ : o.op = .load ty x) (h : wpList P ops Q (o :: rest) a w) : wpList P ops Q (o :: rest) a w := h
theorem atStore {P : Program} {ops : Array Oper} {rest : List Oper} {o : Oper} {a : Act} {w : World} {Q : Exit → Act → World → Prop} {ty : TypeId} {x y : Operand} (_ : o.op = .store ty x y) (h : wpList P ops Q (o :: rest) a w) : wpList P ops Q (o :: rest) a w := h
end Go.Proofs.YtfodnadmabnacaaDoor.Base2
