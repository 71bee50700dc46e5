/- The way up: the contracts of Check and of its closure. -/
import Derived.Test.YtalgailclcefdaaDoorTreeCalls
namespace Go.Proofs.YtalgailclcefdaaDoor
open Go.RowKit

theorem drew_grown' {W W' : World} {r : Option Nat} (h : W.drew.grownBy W' r) : W.grownBy W' r := ⟨h.os, h.tape, h.output, h.size, h.block⟩
theorem upT_size (h : ByteArray → ByteArray) (n : Nat) (hn : ∀ s, (h s).size = n) (x : ByteArray) (hx : x.size = n) (T : List Bool) (r : List ByteArray) : (upT h x T r).size = n := by
  unfold upT
  split
  · unfold stepU; split <;> exact hn _
  · exact hx
theorem Below.heap_alloc_cell (w : World) (o : Obj) (a : Addr) (h : a.block < w.heap.size) : (w.alloc o).cell? a = w.cell? a := World.cell?_of_block (w := w) (Below.heap_alloc w o a.block h)

theorem bools_form {W : World} {B : Nat} {v : Value} {n : Nat} {xs : List Value} (h : W.ownsRow B 4 1 v n xs) : ∃ a cap, v = .slice a n cap := by
  rcases h.2 with ⟨rfl, h0⟩ | ⟨g, cap, cur, rfl, _⟩
  · subst h0; exact ⟨none, 0, rfl⟩
  · exact ⟨_, cap, rfl⟩
/-- What stands while one goes up. -/
def ChkW (w : World) (g1 n : Nat) (T : List Bool) (v : Value) (x : ByteArray) (W : World) : Prop :=
  W.cell? ⟨w.heap.size, 0, none⟩ = some (.int .i64 (n : Int)) ∧ W.ownsRow (w.heap.size + 1) 4 1 v T.length (T.map Value.bool) ∧ W.heap[g1]? = some (.cells #[.string x] 9 (0, 0)) ∧ Below w.heap.size w W ∧ v.ownBlock ≠ some g1 ∧ w.heap.size < g1 ∧ w.heap.size < W.heap.size
end Go.Proofs.YtalgailclcefdaaDoor
