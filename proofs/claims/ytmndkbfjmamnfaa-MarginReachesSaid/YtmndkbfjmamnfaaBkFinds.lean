/- The walk of BookFinds. -/
import Derived.Test.YtmndkbfjmamnfaaBkAlive
namespace Go.Proofs.Ytmndkbfjmamnfaa
open Go.RowKit Base Base2

/-- Things of so many numbers of 64 bits each, however many. -/
def ItemsWf (k : Nat) (l : List Item) : Prop := ∀ x ∈ l, x.length = k ∧ ∀ z ∈ x, in6 z
structure BookWf (b : BookT) : Prop where
  hs : ItemsWf 4 b.hs
  ss : ItemsWf 3 b.ss
  os : ItemsWf 6 b.os
  rs : ItemsWf 2 b.rs
  co : in6 b.co
theorem ok_of_great {b : BookT} (h : greatT b = false) (hw : BookWf b) : BookOk 200 b := by
  unfold greatT at h
  simp only [Bool.or_eq_false_iff, decide_eq_false_iff_not] at h
  obtain ⟨⟨⟨h1, h2⟩, h3⟩, h4⟩ := h
  exact ⟨⟨by omega, hw.hs⟩, ⟨by omega, hw.ss⟩, ⟨by omega, hw.os⟩, ⟨by omega, hw.rs⟩, hw.co⟩
/-- A law's book in its box, while the law goes on. -/
structure Bs (K : World → Prop) (w : World) (g : Nat) (v : Slots) (b : BookT) (W : World) : Prop where
  k : K W
  lo : Below w.heap.size w W
  box : BoxB W g v b
  bin : BookIn W v b
theorem lt_blkB {W : World} {g : Nat} {o : Obj} (h : W.heap[g]? = some o) : g < W.heap.size := (Array.getElem?_eq_some_iff.1 h).1
theorem Bs.below {K : World → Prop} (hK : ∀ (W W' : World), K W → Below W.heap.size W W' → K W') {w : World} {g : Nat} {v : Slots} {b : BookT} {W W' : World} (h : Bs K w g v b W) (hb : Below W.heap.size W W') : Bs K w g v b W' :=
  ⟨hK _ _ h.k hb, h.lo.trans (hb.mono h.lo.size), (hb.block _ (lt_blkB h.box)).trans h.box, h.bin.below hb⟩
theorem blk_below {W W' : World} {g : Nat} {o : Obj} (h : W.heap[g]? = some o) (hb : Below W.heap.size W W') : W'.heap[g]? = some o := (hb.block _ (lt_blkB h)).trans h
theorem valO_form {p : Item → Bool} {l : List Item} {m : Nat} (h : ItemsOk 6 m l) : ∃ a b c d e f, valO (findL p l) = .agg #[.int .i64 a, .int .i64 b, .int .i64 c, .int .i64 d, .int .i64 e, .int .i64 f] := by
  cases hf : findL p l with
  | none => exact ⟨0, 0, 0, 0, 0, 0, rfl⟩
  | some x =>
    obtain ⟨a, b, c, d, e, f, rfl⟩ := item6 (h.2 x (find_mem hf)).1
    exact ⟨a, b, c, d, e, f, rfl⟩
theorem cells_4 {W : World} {g : Nat} {T : TypeId} {a b c d : Value} (h : W.heap[g]? = some (.cells #[a, b, c, d] T (0, 0))) : W.cell? ⟨g, 0, none⟩ = some a ∧ W.cell? ⟨g, 1, none⟩ = some b ∧ W.cell? ⟨g, 2, none⟩ = some c ∧ W.cell? ⟨g, 3, none⟩ = some d :=
  ⟨cell_of_row W g 0 _ T (0, 0) h, cell_of_row W g 1 _ T (0, 0) h, cell_of_row W g 2 _ T (0, 0) h, cell_of_row W g 3 _ T (0, 0) h⟩
theorem cells_6 {W : World} {g : Nat} {T : TypeId} {a b c d e f : Value} (h : W.heap[g]? = some (.cells #[a, b, c, d, e, f] T (0, 0))) : W.cell? ⟨g, 0, none⟩ = some a ∧ W.cell? ⟨g, 1, none⟩ = some b ∧ W.cell? ⟨g, 2, none⟩ = some c ∧ W.cell? ⟨g, 3, none⟩ = some d ∧ W.cell? ⟨g, 4, none⟩ = some e ∧ W.cell? ⟨g, 5, none⟩ = some f :=
  ⟨cell_of_row W g 0 _ T (0, 0) h, cell_of_row W g 1 _ T (0, 0) h, cell_of_row W g 2 _ T (0, 0) h, cell_of_row W g 3 _ T (0, 0) h, cell_of_row W g 4 _ T (0, 0) h, cell_of_row W g 5 _ T (0, 0) h⟩
/-- A struct's new box, filled: below it all lies as it lay. -/
theorem below_new (W : World) (cs ks : Array Value) (T : TypeId) : Below W.heap.size W ((W.alloc (.cells cs T)).setRow W.heap.size ks) := below_rowB ((Below.refl _ _).alloc (Nat.le_refl _) _) (Nat.le_refl _)
end Go.Proofs.Ytmndkbfjmamnfaa
