/- The disk's laws with the program's contracts in them. -/
import Derived.Test.YtcedkilgfoiifaaDkAlive
import Derived.Test.YtcedkilgfoiifaaDkIn
import Derived.Test.YtcedkilgfoiifaaDkProg
namespace Go.Proofs.Ytcedkilgfoiifaa
open Go.RowKit
theorem dk3 (a : Option Addr) (n c : Nat) (files : List FileT) (room : Int) (a2 : Option Addr) (n2 c2 : Nat) (l : List ActT) (w : World) (hn : files.length = n) (hr : FilesAt w a files ∧ ∀ f ∈ files, f.1.size ≤ maxLen ∧ f.2.size ≤ maxLen) (hm : n ≤ maxLen) (hc : n ≤ c) (hg : In64D room) (hn2 : l.length = n2) (hr2 : ActsAt w.heap.size w a2 l) (hm2 : n2 ≤ maxLen) :
    Calls Try.prog 3 #[.slice a n c, .int .i64 room, .slice a2 n2 c2] w fun e w' => e = .returned (.bool true) ∧ Below w.heap.size w w' := by
  subst hn hn2
  exact plays3 progC a a2 c c2 files l room w hr.1 hm hc hr.2 hg hr2 hm2 (alive6D progC w)
theorem dk4 (a : Option Addr) (n c : Nat) (files : List FileT) (a2 : Option Addr) (n2 c2 : Nat) (l : List ActT) (a3 : Option Addr) (n3 c3 : Nat) (keep : List Int) (w : World) (hn : files.length = n) (hr : FilesAt w a files ∧ ∀ f ∈ files, f.1.size ≤ maxLen ∧ f.2.size ≤ maxLen) (hm : n ≤ maxLen) (hn2 : l.length = n2) (hr2 : ActsAt w.heap.size w a2 l) (hm2 : n2 ≤ maxLen) (hn3 : keep.length = n3) (hr3 : NumsAt w a3 keep ∧ (keep = [] ∨ AdrP (fun k => k < w.heap.size) a3) ∧ ∀ z ∈ keep, In64D z) (hm3 : n3 ≤ maxLen) :
    Calls Try.prog 4 #[.slice a n c, .slice a2 n2 c2, .slice a3 n3 c3] w fun e w' => e = .returned (.bool true) ∧ Below w.heap.size w w' := by
  subst hn hn2 hn3
  exact keeps4 progC a a2 a3 c c2 c3 files l keep w hr.1 hm hr.2 hr2 hm2 hr3.1 hr3.2.1 hr3.2.2 hm3 (alive6D progC w)
theorem dk5 (name s : ByteArray) (pl : Int) (w : World) :
    Calls Try.prog 5 #[.string name, .int .i64 pl, .string s] w fun e w' => e = .returned (.bool true) ∧ Below w.heap.size w w' := none5 progN name s pl w (alive6D progC w)
end Go.Proofs.Ytcedkilgfoiifaa
