/- What the laws of books ask of the program. -/
import Derived.Test.YtmndkbfjmamnfaaBkRef9
namespace Go.Proofs.Ytmndkbfjmamnfaa
open Go.RowKit Base Base2

/-- A row that may be written: it lies from a block on, and nothing of it is frozen. -/
def RowNew (base : Nat) (W : World) (a : Option Addr) (l : List Item) : Prop := l = [] ∨ ∃ b off, a = some ⟨b, off, none⟩ ∧ base ≤ b ∧ ∀ i, W.frozen? ⟨b, i, none⟩ = false
structure BookNew (base : Nat) (W : World) (v : Slots) (b : BookT) : Prop where
  hs : RowNew base W v.h b.hs
  ss : RowNew base W v.s b.ss
  os : RowNew base W v.o b.os
  rs : RowNew base W v.r b.rs
/-- Rows that have room for what they hold. -/
structure CapOk (v : Slots) (b : BookT) : Prop where
  hs : b.hs.length ≤ v.ch
  ss : b.ss.length ≤ v.cs
  os : b.os.length ≤ v.co
  rs : b.rs.length ≤ v.cr
/-- An answer that is a book of its own. -/
def BookOut (w : World) (b : BookT) (e : Ending) (w' : World) : Prop := (∃ v, e = .returned (.agg (cellsB v b)) ∧ BookIn w' v b ∧ BookNew w.heap.size w' v b ∧ CapOk v b) ∧ Below w.heap.size w w'
theorem ItemsOk.mono {k m n : Nat} {l : List Item} (h : ItemsOk k m l) (hm : m ≤ n) : ItemsOk k n l := ⟨Nat.le_trans h.1 hm, h.2⟩
theorem BookOk.mono {m n : Nat} {b : BookT} (h : BookOk m b) (hm : m ≤ n) : BookOk n b := ⟨h.hs.mono hm, h.ss.mono hm, h.os.mono hm, h.rs.mono hm, h.co⟩
end Go.Proofs.Ytmndkbfjmamnfaa
