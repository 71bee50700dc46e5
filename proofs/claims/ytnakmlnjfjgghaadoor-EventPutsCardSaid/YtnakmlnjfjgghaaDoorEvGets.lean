/- Contracts of Get, GetVerdict and GetPair: what of any bytes is a thing's numbers, or the fault. -/
import Derived.Test.YtnakmlnjfjgghaaDoorEvGet
namespace Go.Proofs.YtnakmlnjfjgghaaDoor
open Go.RowKit Base

set_option maxRecDepth 100000 in
set_option maxHeartbeats 2000000 in
theorem get10 (s : ByteArray) (w : World) (hs : s.size ≤ 1000000) :
    Calls Tryd.prog 10 #[.string s] w fun e w' => e = .returned (.tuple #[.agg (rowI (getN 7 s).1), .int .i64 (getN 7 s).2]) ∧ Below w.heap.size w w' := by
  obtain ⟨w0, hw0⟩ : ∃ w0, w0 = w.alloc (.cells #[Value.int .i64 0, Value.int .i64 0, Value.int .i64 0, Value.int .i64 0, Value.int .i64 0, Value.int .i64 0, Value.int .i64 0] 23) := ⟨_, rfl⟩
  have HN := Lib.hid (show w0.heap[w.heap.size]? = some (.cells (rowI (List.replicate 7 0)) 23 (0, 0)) by rw [hw0]; exact heap_alloc_new w _)
  have HB := Lib.hid (show Below w.heap.size w w0 by rw [hw0]; exact (Below.refl _ w).alloc (Nat.le_refl _) _)
  have HR := Lib.hid (read27 s w0 hs)
  have hl := getN_len 7 s
  have HI : Hid ((Tryd.prog.info? 23).map (·.size) = some (rowI (getN 7 s).1).size) := by show _ = _; rw [rowI_size, hl]; kernel_rfl
  have HZ : Hid ((rowI (List.replicate 7 0)).size = (rowI (getN 7 s).1).size) := by show _ = _; rw [rowI_size, rowI_size, hl]; rfl
  have HL := Lib.hid (lt_of_blk HN.out)
  have h1 := Lib.hid (rowI_one (getN 7 s).1)
  generalize rowI (getN 7 s).1 = R at *
  generalize (getN 7 s).2 = E at *
  clear hl hs
  subst hw0
  go_enter Tryd.func10, Tryd.ntmps10
  go_wp2_with (first
    | (go_at_call 27; refine HR.out.mono ?_; rintro e w1 ⟨rfl, hb⟩; have HB1 := Lib.hid hb; have HM := Lib.hid ((HB1.out.block _ HL.out).trans HN.out); clear hb)
    | (refine wpList_store_row rfl 23 (.tmp 2) (.tmp 6) rfl w.heap.size R rfl rfl 23 _ HM.out HI.out HZ.out h1.out ?_))
  refine ret_cell_tmp rfl rfl rfl rfl (setRow_heap _ _ _ _ _ _ HM.out) Tryd.underlying23 rfl HI.out ?_
  exact ⟨rfl, below_row1 (bt2 HB.out HB1.out) (Nat.le_refl _)⟩

set_option maxRecDepth 100000 in
set_option maxHeartbeats 2000000 in
theorem get11 (s : ByteArray) (w : World) (hs : s.size ≤ 1000000) :
    Calls Tryd.prog 11 #[.string s] w fun e w' => e = .returned (.tuple #[.agg (rowI (getN 2 s).1), .int .i64 (getN 2 s).2]) ∧ Below w.heap.size w w' := by
  obtain ⟨w0, hw0⟩ : ∃ w0, w0 = w.alloc (.cells #[Value.int .i64 0, Value.int .i64 0] 25) := ⟨_, rfl⟩
  have HN := Lib.hid (show w0.heap[w.heap.size]? = some (.cells (rowI (List.replicate 2 0)) 25 (0, 0)) by rw [hw0]; exact heap_alloc_new w _)
  have HB := Lib.hid (show Below w.heap.size w w0 by rw [hw0]; exact (Below.refl _ w).alloc (Nat.le_refl _) _)
  have HR := Lib.hid (read28 s w0 hs)
  have hl := getN_len 2 s
  have HI : Hid ((Tryd.prog.info? 25).map (·.size) = some (rowI (getN 2 s).1).size) := by show _ = _; rw [rowI_size, hl]; kernel_rfl
  have HZ : Hid ((rowI (List.replicate 2 0)).size = (rowI (getN 2 s).1).size) := by show _ = _; rw [rowI_size, rowI_size, hl]; rfl
  have HL := Lib.hid (lt_of_blk HN.out)
  have h1 := Lib.hid (rowI_one (getN 2 s).1)
  generalize rowI (getN 2 s).1 = R at *
  generalize (getN 2 s).2 = E at *
  clear hl hs
  subst hw0
  go_enter Tryd.func11, Tryd.ntmps11
  go_wp2_with (first
    | (go_at_call 28; refine HR.out.mono ?_; rintro e w1 ⟨rfl, hb⟩; have HB1 := Lib.hid hb; have HM := Lib.hid ((HB1.out.block _ HL.out).trans HN.out); clear hb)
    | (refine wpList_store_row rfl 25 (.tmp 2) (.tmp 6) rfl w.heap.size R rfl rfl 25 _ HM.out HI.out HZ.out h1.out ?_))
  refine ret_cell_tmp rfl rfl rfl rfl (setRow_heap _ _ _ _ _ _ HM.out) Tryd.underlying25 rfl HI.out ?_
  exact ⟨rfl, below_row1 (bt2 HB.out HB1.out) (Nat.le_refl _)⟩

set_option maxRecDepth 100000 in
set_option maxHeartbeats 2000000 in
theorem get12 (s : ByteArray) (w : World) (hs : s.size ≤ 1000000) :
    Calls Tryd.prog 12 #[.string s] w fun e w' => e = .returned (.tuple #[.agg (rowI (getN 9 s).1), .int .i64 (getN 9 s).2]) ∧ Below w.heap.size w w' := by
  obtain ⟨w0, hw0⟩ : ∃ w0, w0 = w.alloc (.cells #[Value.int .i64 0, Value.int .i64 0, Value.int .i64 0, Value.int .i64 0, Value.int .i64 0, Value.int .i64 0, Value.int .i64 0, Value.int .i64 0, Value.int .i64 0] 27) := ⟨_, rfl⟩
  have HN := Lib.hid (show w0.heap[w.heap.size]? = some (.cells (rowI (List.replicate 9 0)) 27 (0, 0)) by rw [hw0]; exact heap_alloc_new w _)
  have HB := Lib.hid (show Below w.heap.size w w0 by rw [hw0]; exact (Below.refl _ w).alloc (Nat.le_refl _) _)
  have HR := Lib.hid (read29 s w0 hs)
  have hl := getN_len 9 s
  have HI : Hid ((Tryd.prog.info? 27).map (·.size) = some (rowI (getN 9 s).1).size) := by show _ = _; rw [rowI_size, hl]; kernel_rfl
  have HZ : Hid ((rowI (List.replicate 9 0)).size = (rowI (getN 9 s).1).size) := by show _ = _; rw [rowI_size, rowI_size, hl]; rfl
  have HL := Lib.hid (lt_of_blk HN.out)
  have h1 := Lib.hid (rowI_one (getN 9 s).1)
  generalize rowI (getN 9 s).1 = R at *
  generalize (getN 9 s).2 = E at *
  clear hl hs
  subst hw0
  go_enter Tryd.func12, Tryd.ntmps12
  go_wp2_with (first
    | (go_at_call 29; refine HR.out.mono ?_; rintro e w1 ⟨rfl, hb⟩; have HB1 := Lib.hid hb; have HM := Lib.hid ((HB1.out.block _ HL.out).trans HN.out); clear hb)
    | (refine wpList_store_row rfl 27 (.tmp 2) (.tmp 6) rfl w.heap.size R rfl rfl 27 _ HM.out HI.out HZ.out h1.out ?_))
  refine ret_cell_tmp rfl rfl rfl rfl (setRow_heap _ _ _ _ _ _ HM.out) Tryd.underlying27 rfl HI.out ?_
  exact ⟨rfl, below_row1 (bt2 HB.out HB1.out) (Nat.le_refl _)⟩
end Go.Proofs.YtnakmlnjfjgghaaDoor
