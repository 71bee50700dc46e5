/- Contracts of Put, PutVerdict and PutPair, the program's and the document's: the numbers' bytes. -/
import Derived.Test.YtnakmlnjfjgghaaDoorEvPut
import Derived.BigQuiet
namespace Go.Proofs.YtnakmlnjfjgghaaDoor
open Go.RowKit Base

/-- A thing of so many numbers, as a value. -/
def aggL (l : List Int) : Value := .agg (l.map (Value.int .i64)).toArray

set_option maxRecDepth 100000 in
set_option maxHeartbeats 2000000 in
theorem put7 (a0 a1 a2 a3 a4 a5 a6 : Int) (w : World) (hin : In64L [a0, a1, a2, a3, a4, a5, a6]) :
    Calls Tryd.prog 7 #[.agg #[.int .i64 a0, .int .i64 a1, .int .i64 a2, .int .i64 a3, .int .i64 a4, .int .i64 a5, .int .i64 a6]] w fun e w' => e = .returned (.string (encS [a0, a1, a2, a3, a4, a5, a6])) ∧ Below w.heap.size w w' := by
  obtain ⟨w0, hw0⟩ : ∃ w0, w0 = w.alloc (.cells #[.int .i64 a0, .int .i64 a1, .int .i64 a2, .int .i64 a3, .int .i64 a4, .int .i64 a5, .int .i64 a6] 23) := ⟨_, rfl⟩
  have HN := Lib.hid (show w0.heap[w.heap.size]? = some (.cells #[.int .i64 a0, .int .i64 a1, .int .i64 a2, .int .i64 a3, .int .i64 a4, .int .i64 a5, .int .i64 a6] 23 (0, 0)) by rw [hw0]; exact heap_alloc_new w _)
  have HB := Lib.hid (show Below w.heap.size w w0 by rw [hw0]; exact (Below.refl _ w).alloc (Nat.le_refl _) _)
  have HO := Lib.hid (ofEvent24 w.heap.size 0 w0 (lt_of_blk HN.out))
  have HP := Lib.hid (fun (B g cap : Nat) (W : World) (h1 : W.ownsRow B 20 1 (.slice (some ⟨g, 0, none⟩) 7 cap) 7 (pts w.heap.size 7)) (h2 : W.heap[w.heap.size]? = some (.cells #[.int .i64 a0, .int .i64 a1, .int .i64 a2, .int .i64 a3, .int .i64 a4, .int .i64 a5, .int .i64 a6] 23 (0, 0))) =>
    written23 B g w.heap.size 7 cap 23 [a0, a1, a2, a3, a4, a5, a6] W rfl (by omega) h1 h2 hin)
  clear hin
  subst hw0
  go_enter Tryd.func7, Tryd.ntmps7
  go_wp2_with (first
    | (go_at_call 24; refine HO.out.mono ?_; rintro e w1 ⟨v, rfl, ho, hb⟩; rw [ptsE0] at ho; obtain ⟨g, cap, rfl⟩ := own_shape' ho (by omega); have HO1 := Lib.hid ho; have HB1 := Lib.hid hb; clear ho hb)
    | (go_at_call 23; refine (HP.out _ _ _ _ HO1.out ((HB1.out.block _ (lt_of_blk HN.out)).trans HN.out)).mono ?_; rintro e w2 ⟨rfl, hb⟩; have HB2 := Lib.hid hb; clear hb))
  go_ret
  exact ⟨rfl, bt2 (bt2 HB.out HB1.out) HB2.out⟩
set_option maxRecDepth 100000 in
set_option maxHeartbeats 2000000 in
theorem put8 (a0 a1 : Int) (w : World) (hin : In64L [a0, a1]) :
    Calls Tryd.prog 8 #[.agg #[.int .i64 a0, .int .i64 a1]] w fun e w' => e = .returned (.string (encS [a0, a1])) ∧ Below w.heap.size w w' := by
  obtain ⟨w0, hw0⟩ : ∃ w0, w0 = w.alloc (.cells #[.int .i64 a0, .int .i64 a1] 25) := ⟨_, rfl⟩
  have HN := Lib.hid (show w0.heap[w.heap.size]? = some (.cells #[.int .i64 a0, .int .i64 a1] 25 (0, 0)) by rw [hw0]; exact heap_alloc_new w _)
  have HB := Lib.hid (show Below w.heap.size w w0 by rw [hw0]; exact (Below.refl _ w).alloc (Nat.le_refl _) _)
  have HO := Lib.hid (ofVerdict25 w.heap.size 0 w0 (lt_of_blk HN.out))
  have HP := Lib.hid (fun (B g cap : Nat) (W : World) (h1 : W.ownsRow B 20 1 (.slice (some ⟨g, 0, none⟩) 2 cap) 2 (pts w.heap.size 2)) (h2 : W.heap[w.heap.size]? = some (.cells #[.int .i64 a0, .int .i64 a1] 25 (0, 0))) =>
    written23 B g w.heap.size 2 cap 25 [a0, a1] W rfl (by omega) h1 h2 hin)
  clear hin
  subst hw0
  go_enter Tryd.func8, Tryd.ntmps8
  go_wp2_with (first
    | (go_at_call 25; refine HO.out.mono ?_; rintro e w1 ⟨v, rfl, ho, hb⟩; rw [ptsV0] at ho; obtain ⟨g, cap, rfl⟩ := own_shape' ho (by omega); have HO1 := Lib.hid ho; have HB1 := Lib.hid hb; clear ho hb)
    | (go_at_call 23; refine (HP.out _ _ _ _ HO1.out ((HB1.out.block _ (lt_of_blk HN.out)).trans HN.out)).mono ?_; rintro e w2 ⟨rfl, hb⟩; have HB2 := Lib.hid hb; clear hb))
  go_ret
  exact ⟨rfl, bt2 (bt2 HB.out HB1.out) HB2.out⟩
set_option maxRecDepth 100000 in
set_option maxHeartbeats 2000000 in
theorem put9 (a0 a1 a2 a3 a4 a5 a6 a7 a8 : Int) (w : World) (hin : In64L [a0, a1, a2, a3, a4, a5, a6, a7, a8]) :
    Calls Tryd.prog 9 #[.agg #[.int .i64 a0, .int .i64 a1, .int .i64 a2, .int .i64 a3, .int .i64 a4, .int .i64 a5, .int .i64 a6, .int .i64 a7, .int .i64 a8]] w fun e w' => e = .returned (.string (encS [a0, a1, a2, a3, a4, a5, a6, a7, a8])) ∧ Below w.heap.size w w' := by
  obtain ⟨w0, hw0⟩ : ∃ w0, w0 = w.alloc (.cells #[.int .i64 a0, .int .i64 a1, .int .i64 a2, .int .i64 a3, .int .i64 a4, .int .i64 a5, .int .i64 a6, .int .i64 a7, .int .i64 a8] 27) := ⟨_, rfl⟩
  have HN := Lib.hid (show w0.heap[w.heap.size]? = some (.cells #[.int .i64 a0, .int .i64 a1, .int .i64 a2, .int .i64 a3, .int .i64 a4, .int .i64 a5, .int .i64 a6, .int .i64 a7, .int .i64 a8] 27 (0, 0)) by rw [hw0]; exact heap_alloc_new w _)
  have HB := Lib.hid (show Below w.heap.size w w0 by rw [hw0]; exact (Below.refl _ w).alloc (Nat.le_refl _) _)
  have HO := Lib.hid (ofPair26 w.heap.size w0 (lt_of_blk HN.out))
  have HP := Lib.hid (fun (B g cap : Nat) (W : World) (h1 : W.ownsRow B 20 1 (.slice (some ⟨g, 0, none⟩) 9 cap) 9 (pts w.heap.size 9)) (h2 : W.heap[w.heap.size]? = some (.cells #[.int .i64 a0, .int .i64 a1, .int .i64 a2, .int .i64 a3, .int .i64 a4, .int .i64 a5, .int .i64 a6, .int .i64 a7, .int .i64 a8] 27 (0, 0))) =>
    written23 B g w.heap.size 9 cap 27 [a0, a1, a2, a3, a4, a5, a6, a7, a8] W rfl (by omega) h1 h2 hin)
  clear hin
  subst hw0
  go_enter Tryd.func9, Tryd.ntmps9
  go_wp2_with (first
    | (go_at_call 26; refine HO.out.mono ?_; rintro e w1 ⟨v, rfl, ho, hb⟩; obtain ⟨g, cap, rfl⟩ := own_shape' ho (by omega); have HO1 := Lib.hid ho; have HB1 := Lib.hid hb; clear ho hb)
    | (go_at_call 23; refine (HP.out _ _ _ _ HO1.out ((HB1.out.block _ (lt_of_blk HN.out)).trans HN.out)).mono ?_; rintro e w2 ⟨rfl, hb⟩; have HB2 := Lib.hid hb; clear hb))
  go_ret
  exact ⟨rfl, bt2 (bt2 HB.out HB1.out) HB2.out⟩
end Go.Proofs.YtnakmlnjfjgghaaDoor
