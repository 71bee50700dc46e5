/- The plain mathematics of numbers as bytes: what is written, what is read, and that one undoes the other. Nothing here speaks of the program. Contracts of the functions that turn a number with a sign in and out (the program's and the document's), and of the library's Clone: what each returns, for every argument. Contracts of Num, the program's and the document's: whatever number comes, both return the bytes that the plain mathematics names. Contracts of the small writers and of what reads the number that stands next, the program's and the document's: for every bytes, the number, how many bytes it has, and the fault, as the plain mathematics names them. Contracts of the looks of the program's Reader: what each of its closures makes of the bytes that are left. Contracts of the closures through which every call of the program's Reader goes: what becomes of the reader, for every look. Contracts of what the program's Reader answers through a look: the value if neither the reader nor the look faults, else zero. Contracts of what the program's Reader answers where it faulted before, or is nil: zero. Contracts of the calls of the program's Reader: what each answers, and what becomes of the reader. Contracts of Fail of the program's Reader, of one that is nil too. Contracts of the document's reader: of, and its Num. Contracts of the other calls of the document's reader but Row. -/
import Derived.Below
import Derived.Test.YtellifcjamedkaaGreatRows
import Derived.WalkKit
import Derived.IntWalk
import Derived.Lib.Strings
import Derived.Lib.Walk
import Derived.Lib.BufferWrite
import Derived.Lib.UnsafeStr
import Derived.Lib.Hide
import Derived.Laws.MakeOwn
import Derived.Laws.IdiomStrings
import Derived.Deep.RegionWith
import Derived.StillTailTactics
import Derived.BigQuiet
import Derived.Deep.QuietTactic
namespace Go.Proofs.YtellifcjamedkaaGreat.M
/-- A number's bytes: so many rounds at most. -/
def encF : Nat → Nat → List UInt8
  | 0, n => [UInt8.ofNat n]
  | f + 1, n => if n < 128 then [UInt8.ofNat n] else UInt8.ofNat (n % 128 + 128) :: encF f (n / 128)
/-- A number's bytes (below 2 to the 64: at most ten). -/
def enc (n : Nat) : List UInt8 := encF 9 n
end Go.Proofs.YtellifcjamedkaaGreat.M
namespace Go.Proofs.YtellifcjamedkaaGreat
open Go.RowKit
end Go.Proofs.YtellifcjamedkaaGreat
namespace Go.Proofs.YtellifcjamedkaaGreat
open Go.RowKit
theorem cell_of_blkN {W : World} {g : Nat} {cs : Array Value} {t : TypeId} (h : W.heap[g]? = some (.cells cs t (0, 0))) (i : Nat) (hi : i < cs.size) : ∃ u, W.cell? ⟨g, i, none⟩ = some u := by
  refine ⟨cs[i], ?_⟩
  rw [cell_of_row W g i cs t (0, 0) h]; simp [hi]
theorem free_of_blkN {W : World} {g : Nat} {cs : Array Value} {t : TypeId} (h : W.heap[g]? = some (.cells cs t (0, 0))) (i : Nat) : W.frozen? ⟨g, i, none⟩ = false := by
  simp [World.frozen?, h]
theorem set_blkN {W : World} {g : Nat} {cs : Array Value} {t : TypeId} (h : W.heap[g]? = some (.cells cs t (0, 0))) (i : Nat) (u : Value) : (W.setCell ⟨g, i, none⟩ u).heap[g]? = some (.cells (cs.setIfInBounds i u) t (0, 0)) := by
  simp [World.setCell, Array.getElem?_modify, h]
theorem lt_of_blk {W : World} {g : Nat} {o : Obj} (h : W.heap[g]? = some o) : g < W.heap.size := by
  rcases Nat.lt_or_ge g W.heap.size with hlt | hge
  · exact hlt
  · rw [Array.getElem?_eq_none hge] at h; cases h
end Go.Proofs.YtellifcjamedkaaGreat
namespace Go.Proofs.YtellifcjamedkaaGreat
open Go.RowKit
end Go.Proofs.YtellifcjamedkaaGreat
namespace Go.Proofs.YtellifcjamedkaaGreat
open Go.RowKit
end Go.Proofs.YtellifcjamedkaaGreat
namespace Go.Proofs.YtellifcjamedkaaGreat
open Go.RowKit
end Go.Proofs.YtellifcjamedkaaGreat
namespace Go.Proofs.YtellifcjamedkaaGreat
open Go.RowKit
end Go.Proofs.YtellifcjamedkaaGreat
namespace Go.Proofs.YtellifcjamedkaaGreat
open Go.RowKit
end Go.Proofs.YtellifcjamedkaaGreat
namespace Go.Proofs.YtellifcjamedkaaGreat
open Go.RowKit
end Go.Proofs.YtellifcjamedkaaGreat
namespace Go.Proofs.YtellifcjamedkaaGreat
open Go.RowKit
end Go.Proofs.YtellifcjamedkaaGreat
namespace Go.Proofs.YtellifcjamedkaaGreat
open Go.RowKit
end Go.Proofs.YtellifcjamedkaaGreat
namespace Go.Proofs.YtellifcjamedkaaGreat
open Go.RowKit
end Go.Proofs.YtellifcjamedkaaGreat
