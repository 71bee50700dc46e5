/- Things that are alike are held alike; a thing's numbers put, as a row. -/
import Derived.Test.YtnakmlnjfjgghaaDoorEvAlive
import Derived.Test.YtnakmlnjfjgghaaDoorEvGets
import Derived.Test.YtnakmlnjfjgghaaDoorEvRGets
import Derived.Test.YtnakmlnjfjgghaaDoorEvRPuts
import Derived.Laws.StructEq
namespace Go.Proofs.YtnakmlnjfjgghaaDoor
open Go.RowKit Base

theorem eqE (a0 a1 a2 a3 a4 a5 a6 : Int) (W : World) : (binOp .eql 23 (.agg (rowI [a0, a1, a2, a3, a4, a5, a6])) (.agg (rowI [a0, a1, a2, a3, a4, a5, a6]))).run Tryd.prog W = .ok (.bool true) W := by
  simp only [rowI, List.map_cons, List.map_nil]
  go_simp
theorem neE (a0 a1 a2 a3 a4 a5 a6 : Int) (W : World) : (binOp .neq 23 (.agg (rowI [a0, a1, a2, a3, a4, a5, a6])) (.agg (rowI [a0, a1, a2, a3, a4, a5, a6]))).run Tryd.prog W = .ok (.bool false) W := by
  simp only [rowI, List.map_cons, List.map_nil]
  go_simp
theorem eqV (a0 a1 : Int) (W : World) : (binOp .eql 25 (.agg (rowI [a0, a1])) (.agg (rowI [a0, a1]))).run Tryd.prog W = .ok (.bool true) W := by
  simp only [rowI, List.map_cons, List.map_nil]
  go_simp
theorem neV (a0 a1 : Int) (W : World) : (binOp .neq 25 (.agg (rowI [a0, a1])) (.agg (rowI [a0, a1]))).run Tryd.prog W = .ok (.bool false) W := by
  simp only [rowI, List.map_cons, List.map_nil]
  go_simp
theorem eqP (a0 a1 a2 a3 a4 a5 a6 a7 a8 : Int) (W : World) : (binOp .eql 27 (.agg (rowI [a0, a1, a2, a3, a4, a5, a6, a7, a8])) (.agg (rowI [a0, a1, a2, a3, a4, a5, a6, a7, a8]))).run Tryd.prog W = .ok (.bool true) W := by
  simp only [rowI, List.map_cons, List.map_nil]
  go_simp
theorem neP (a0 a1 a2 a3 a4 a5 a6 a7 a8 : Int) (W : World) : (binOp .neq 27 (.agg (rowI [a0, a1, a2, a3, a4, a5, a6, a7, a8])) (.agg (rowI [a0, a1, a2, a3, a4, a5, a6, a7, a8]))).run Tryd.prog W = .ok (.bool false) W := by
  simp only [rowI, List.map_cons, List.map_nil]
  go_simp

theorem eqR23 (L : List Int) (h : L.length = 7) (W : World) : (binOp .eql 23 (.agg (rowI L)) (.agg (rowI L))).run Tryd.prog W = .ok (.bool true) W := by
  obtain ⟨b0, b1, b2, b3, b4, b5, b6, rfl⟩ := list7 h
  exact eqE _ _ _ _ _ _ _ W
theorem neR23 (L : List Int) (h : L.length = 7) (W : World) : (binOp .neq 23 (.agg (rowI L)) (.agg (rowI L))).run Tryd.prog W = .ok (.bool false) W := by
  obtain ⟨b0, b1, b2, b3, b4, b5, b6, rfl⟩ := list7 h
  exact neE _ _ _ _ _ _ _ W
theorem put7R (L : List Int) (h : L.length = 7) (hin : In64L L) (W : World) : Calls Tryd.prog 7 #[.agg (rowI L)] W fun e w' => e = .returned (.string (encS L)) ∧ Below W.heap.size W w' := by
  obtain ⟨b0, b1, b2, b3, b4, b5, b6, rfl⟩ := list7 h
  exact put7 _ _ _ _ _ _ _ W hin
theorem rput13R (L : List Int) (h : L.length = 7) (hin : In64L L) (W : World) : Calls Tryd.prog 13 #[.agg (rowI L)] W fun e w' => e = .returned (.string (encS L)) ∧ Below W.heap.size W w' := by
  obtain ⟨b0, b1, b2, b3, b4, b5, b6, rfl⟩ := list7 h
  exact rput13 _ _ _ _ _ _ _ W hin

theorem eqR25 (L : List Int) (h : L.length = 2) (W : World) : (binOp .eql 25 (.agg (rowI L)) (.agg (rowI L))).run Tryd.prog W = .ok (.bool true) W := by
  obtain ⟨b0, b1, rfl⟩ := list2 h
  exact eqV _ _ W
theorem neR25 (L : List Int) (h : L.length = 2) (W : World) : (binOp .neq 25 (.agg (rowI L)) (.agg (rowI L))).run Tryd.prog W = .ok (.bool false) W := by
  obtain ⟨b0, b1, rfl⟩ := list2 h
  exact neV _ _ W
theorem put8R (L : List Int) (h : L.length = 2) (hin : In64L L) (W : World) : Calls Tryd.prog 8 #[.agg (rowI L)] W fun e w' => e = .returned (.string (encS L)) ∧ Below W.heap.size W w' := by
  obtain ⟨b0, b1, rfl⟩ := list2 h
  exact put8 _ _ W hin
theorem rput14R (L : List Int) (h : L.length = 2) (hin : In64L L) (W : World) : Calls Tryd.prog 14 #[.agg (rowI L)] W fun e w' => e = .returned (.string (encS L)) ∧ Below W.heap.size W w' := by
  obtain ⟨b0, b1, rfl⟩ := list2 h
  exact rput14 _ _ W hin

theorem eqR27 (L : List Int) (h : L.length = 9) (W : World) : (binOp .eql 27 (.agg (rowI L)) (.agg (rowI L))).run Tryd.prog W = .ok (.bool true) W := by
  obtain ⟨b0, b1, b2, b3, b4, b5, b6, b7, b8, rfl⟩ := list9 h
  exact eqP _ _ _ _ _ _ _ _ _ W
theorem neR27 (L : List Int) (h : L.length = 9) (W : World) : (binOp .neq 27 (.agg (rowI L)) (.agg (rowI L))).run Tryd.prog W = .ok (.bool false) W := by
  obtain ⟨b0, b1, b2, b3, b4, b5, b6, b7, b8, rfl⟩ := list9 h
  exact neP _ _ _ _ _ _ _ _ _ W
theorem put9R (L : List Int) (h : L.length = 9) (hin : In64L L) (W : World) : Calls Tryd.prog 9 #[.agg (rowI L)] W fun e w' => e = .returned (.string (encS L)) ∧ Below W.heap.size W w' := by
  obtain ⟨b0, b1, b2, b3, b4, b5, b6, b7, b8, rfl⟩ := list9 h
  exact put9 _ _ _ _ _ _ _ _ _ W hin
theorem rput15R (L : List Int) (h : L.length = 9) (hin : In64L L) (W : World) : Calls Tryd.prog 15 #[.agg (rowI L)] W fun e w' => e = .returned (.string (encS L)) ∧ Below W.heap.size W w' := by
  obtain ⟨b0, b1, b2, b3, b4, b5, b6, b7, b8, rfl⟩ := list9 h
  exact rput15 _ _ _ _ _ _ _ _ _ W hin

theorem wpList_load_rowG {P : Program} {ops : Array Oper} {rest : List Oper} {o : Oper} {a : Act} {w : World} {Q : Exit → Act → World → Prop} (hw : Region.wanted o (yielded ops a.tmps) = true) (ty : TypeId) (x : Operand) (ho : o.op = .load ty x)
    (g : Nat) (hx : a.eval x = .pointer (some ⟨g, 0, none⟩)) (t : TypeId) (cs : Array Value) (fr : Nat × Nat) (d : TypeDesc) (hg : w.heap[g]? = some (.cells cs t fr))
    (hu : P.underlying ty = some d) (hd : (match d with | .struct _ | .array _ _ => true | _ => false) = true) (hi : (P.info? ty).map (·.size) = some cs.size)
    (h : wpList P ops Q rest (a.put o.dst (.agg cs)) w) : wpList P ops Q (o :: rest) a w :=
  BigFrame.wpList_want hw fun _ hK => wp_load_row ty x ho g hx t cs fr d hg hu hd hi (hK _ _ h)

/-- The operation that stands next is a load: else it does not fit (a quick look). -/
theorem atLoad {P : Program} {ops : Array Oper} {rest : List Oper} {o : Oper} {a : Act} {w : World} {Q : Exit → Act → World → Prop} {ty : TypeId} {x : Operand} (_ho : o.op = .load ty x) (h : wpList P ops Q (o :: rest) a w) : wpList P ops Q (o :: rest) a w := h

/-- Rows that stand in blocks of their own, and nothing before them has turned. -/
def Stand (w : World) (l : List (Nat × Array Value × TypeId)) (W : World) : Prop := (∀ x ∈ l, W.heap[x.1]? = some (.cells x.2.1 x.2.2 (0, 0))) ∧ Below w.heap.size w W
theorem Stand.below {w W W' : World} {l : List (Nat × Array Value × TypeId)} (h : Stand w l W) (hb : Below W.heap.size W W') : Stand w l W' :=
  ⟨fun x hx => (hb.block _ (lt_of_blk (h.1 x hx))).trans (h.1 x hx), bt2 h.2 hb⟩
theorem Stand.push {w W : World} {l : List (Nat × Array Value × TypeId)} (h : Stand w l W) (T : TypeId) (Z R : Array Value) : Stand w ((W.heap.size, R, T) :: l) ((W.alloc (.cells Z T)).setRow W.heap.size R) := by
  have hb : Below W.heap.size W ((W.alloc (.cells Z T)).setRow W.heap.size R) := below_rowB ((Below.refl _ W).alloc (Nat.le_refl _) _) (Nat.le_refl _)
  have h2 := h.below hb
  refine ⟨fun x hx => ?_, h2.2⟩
  rcases List.mem_cons.1 hx with rfl | hx
  · exact setRow_heap _ _ _ _ _ _ (heap_alloc_new W _)
  · exact h2.1 x hx
theorem Stand.nil (w : World) : Stand w [] w := ⟨fun x hx => by simp at hx, Below.refl _ _⟩
end Go.Proofs.YtnakmlnjfjgghaaDoor
