/- Hashes of leaves and nodes: the contracts of Leaf, Node, the program's and the document's. -/
import Derived.Test.YtipaicfmodgcoaaDoorTreeMem
import Derived.Test.YtipaicfmodgcoaaDoorShaAlive
namespace Go.Proofs.YtipaicfmodgcoaaDoor
open Go.RowKit

/-- A digest, cut. -/
def cutH (n : Nat) (s : ByteArray) : ByteArray := (digS s).extract 0 n
theorem cutH_size (n : Nat) (hn : n ≤ 32) (s : ByteArray) : (cutH n s).size = n := by
  unfold cutH; rw [ByteArray.size_extract, digS_size]; omega
theorem bt2 {a b c : World} (h : Below a.heap.size a b) (k : Below b.heap.size b c) : Below a.heap.size a c := h.trans (k.mono h.size)
theorem size_add (a b : ByteArray) : (a ++ b).size = a.size + b.size := ByteArray.size_append ..

theorem cut22 (s : ByteArray) (n : Nat) (w : World) (h1 : n ≤ 32) (hs : s.size ≤ 100000) :
    Calls Tryd.prog 16 #[.agg keyCells, .string s, .int .i64 (n : Int)] w fun e w' => e = .returned (.string (cutH n s)) ∧ Below w.heap.size w w' := by
  have HC := Lib.hid (show ∀ W, Calls Tryd.prog 29 #[.agg keyCells, .string s] W fun e w' => e = .returned (.string (digS s)) ∧ Below W.heap.size W w' from fun W => digest16 s W hs)
  have HI := Lib.hid (show (Tryd.prog.info? 37).map (·.size) = some keyCells.size by rw [key_size]; exact info33)
  have HX := Lib.hid (show (digS s).extract 0 n = cutH n s from rfl)
  have hd := digS_size s
  have hn32 : (n : Int) ≤ ((digS s).size : Int) := by omega
  clear hd
  generalize digS s = D at *
  generalize keyCells = kc at *
  go_enter Tryd.func16, Tryd.ntmps16
  go_upto_region 1 with (fail)
  refine at_world (Φ := fun W => W.heap[w.heap.size]? = some (.cells kc 37 (0, 0)) ∧ Below w.heap.size w W) ⟨heap_alloc_new w _, (Below.refl _ w).alloc (Nat.le_refl _) _⟩ ?_
  rintro W ⟨g1, g2⟩
  have HG := Lib.hid g1; have HB := Lib.hid g2
  clear g1 g2
  go_wp2_with (first
    | (refine wpList_load_row rfl 37 (.tmp 3) rfl w.heap.size rfl 37 kc (0, 0) _ HG.out Tryd.underlying37 rfl HI.out ?_)
    | (go_at_call 29; refine (HC.out _).mono ?_; rintro e w1 ⟨rfl, hb1⟩; have HB1 := Lib.hid hb1; clear hb1))
  go_ret
  exact ⟨ret_str HX.out, bt2 HB.out HB1.out⟩
end Go.Proofs.YtipaicfmodgcoaaDoor
