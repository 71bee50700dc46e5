/- The document's example: alive. -/
import Derived.Test.YtmndkbfjmamnfaaMgP7
import Derived.Test.YtmndkbfjmamnfaaBkAlive
namespace Go.Proofs.Ytmndkbfjmamnfaa
open Go.RowKit Base Base2

def exM : BookT := ⟨[[1, 10, 0, 0]], [[1, 2, 3]], [[4, 1, 2, 0, 2, 4]], [[2, 5]], 0⟩
theorem exM_ok : BookOk 400 exM := ⟨ok_of (by decide) rfl, ok_of (by decide) rfl, ok_of (by decide) rfl, ok_of (by decide) rfl, ⟨by decide, by decide⟩⟩
theorem exM_may : mayT exM = true := rfl
theorem exM_eq : eqT exM 1 = 25 := rfl
theorem exM_ex : exT exM 1 1 7 = 30 := rfl
theorem five_alloc {w : World} {A B C D E : Obj} : (((((w.alloc A).alloc B).alloc C).alloc D).alloc E).heap[w.heap.size]? = some A ∧ (((((w.alloc A).alloc B).alloc C).alloc D).alloc E).heap[w.heap.size + 1]? = some B ∧ (((((w.alloc A).alloc B).alloc C).alloc D).alloc E).heap[w.heap.size + 1 + 1]? = some C ∧ (((((w.alloc A).alloc B).alloc C).alloc D).alloc E).heap[w.heap.size + 1 + 1 + 1]? = some D ∧ (((((w.alloc A).alloc B).alloc C).alloc D).alloc E).heap[w.heap.size + 1 + 1 + 1 + 1]? = some E ∧ Below w.heap.size w (((((w.alloc A).alloc B).alloc C).alloc D).alloc E) := by
  obtain ⟨h1, h2, h3, h4, h5⟩ := four_alloc (w := w) (A := A) (B := B) (C := C) (D := D)
  have hz : ((((w.alloc A).alloc B).alloc C).alloc D).heap.size = w.heap.size + 1 + 1 + 1 + 1 := by simp
  have h6 := heap_alloc_new ((((w.alloc A).alloc B).alloc C).alloc D) E
  have hb := (Below.refl _ ((((w.alloc A).alloc B).alloc C).alloc D)).alloc (Nat.le_refl _) E
  rw [hz] at h6
  exact ⟨(hb.block _ (blk_ltK h1)).trans h1, (hb.block _ (blk_ltK h2)).trans h2, (hb.block _ (blk_ltK h3)).trans h3, (hb.block _ (blk_ltK h4)).trans h4, h6, h5.alloc (by simp; omega) E⟩
theorem rows_one {k : Nat} {W : World} {g : Nat} {t : TypeId} {x : Item} {cs : Array Value} (h : W.heap[g]? = some (.cells cs t (0, 0))) (hc : cs = (x.map (Value.int .i64)).toArray) : RowsOf k W (some ⟨g, 0, none⟩) [x] := by
  subst hc
  refine .inr ⟨g, 0, rfl, blk_ltK h, fun i y hi j z hz => ?_⟩
  match i, hi with
  | 0, hi =>
    obtain rfl : x = y := by simpa using hi
    rw [cell_of_row _ _ _ _ _ _ h]
    simp [hz]
  | i + 1, hi => simp at hi
set_option maxRecDepth 100000 in
set_option maxHeartbeats 8000000 in
theorem small19 (w : World) : Calls Try.prog 19 #[] w fun e w' => (∃ v, e = .returned (.agg (cellsB v exM)) ∧ BookIn w' v exM) ∧ Below w.heap.size w w' := by
  go_enter Try.func19, Try.ntmps19
  go_wp2
  obtain ⟨h0, h1, h2, h3, h4, hb⟩ := five_alloc (w := w) (A := .cells (cellsB ⟨some ⟨w.heap.size + 1, 0, none⟩, some ⟨w.heap.size + 1 + 1, 0, none⟩, some ⟨w.heap.size + 1 + 1 + 1, 0, none⟩, some ⟨w.heap.size + 1 + 1 + 1 + 1, 0, none⟩, 1, 1, 1, 1⟩ exM) 27) (B := .cells #[.int .i64 1, .int .i64 10, .int .i64 0, .int .i64 0] 45) (C := .cells #[.int .i64 1, .int .i64 2, .int .i64 3] 43) (D := .cells #[.int .i64 4, .int .i64 1, .int .i64 2, .int .i64 0, .int .i64 2, .int .i64 4] 37) (E := .cells #[.int .i64 2, .int .i64 5] 67)
  refine ret_cell (cs := cellsB ⟨some ⟨w.heap.size + 1, 0, none⟩, some ⟨w.heap.size + 1 + 1, 0, none⟩, some ⟨w.heap.size + 1 + 1 + 1, 0, none⟩, some ⟨w.heap.size + 1 + 1 + 1 + 1, 0, none⟩, 1, 1, 1, 1⟩ exM) rfl rfl rfl h0 Try.underlying27 rfl info27 ?_
  exact ⟨⟨_, rfl, rows_one h1 rfl, rows_one h2 rfl, rows_one h3 rfl, rows_one h4 rfl⟩, hb⟩
theorem fit25 : fitV 25 = 25 ∧ fitB 25 = true := ⟨rfl, rfl⟩
theorem shr15 : mayB 30 50 = true ∧ fitV (shr 30 50) = 15 ∧ fitB (shr 30 50) = true := ⟨rfl, rfl, rfl⟩
set_option maxRecDepth 100000 in
set_option maxHeartbeats 8000000 in
theorem aliveM (w : World) : Calls Try.prog 7 #[] w fun e w' => e = .returned (.bool true) ∧ Below w.heap.size w w' := by
  have HSM := Lib.hid (fun W => small19 W)
  have HEQ := Lib.hid (fun v W (h : BookIn W v exM) => show Calls Try.prog 9 #[.agg (cellsB v exM), .int .i64 1] W fun e w' => e = .returned (.tuple #[.int .i64 25, .bool true]) ∧ Below W.heap.size W w' from by
    have k := pequity9 v exM 1 W h (exM_ok.mono (by omega))
    rw [exM_may, exM_eq, fit25.1, fit25.2] at k
    exact k)
  have HNE := Lib.hid (fun v W (h : BookIn W v exM) => show Calls Try.prog 10 #[.agg (cellsB v exM), .int .i64 1, .int .i64 1, .int .i64 7, .int .i64 50] W fun e w' => e = .returned (.tuple #[.int .i64 15, .bool true]) ∧ Below W.heap.size W w' from by
    have k := pneed10 v exM 1 1 7 50 W h (exM_ok.mono (by omega)) (by unfold In64'; omega) (by unfold In64'; omega) (by unfold In64'; omega)
    rw [exM_may, exM_ex, shr15.1, shr15.2.1, shr15.2.2] at k
    exact k)
  go_enter Try.func7, Try.ntmps7
  go_wp2_with (first
    | (have hq := H2.out; clear hq; go_at_call 19; refine (HSM.out _).mono ?_; rintro e w3 ⟨⟨v3, rfl, h3⟩, hb3⟩; have H3 := Lib.hid h3; have B3 := Lib.hid hb3; clear h3 hb3)
    | (go_at_call 19; refine (HSM.out _).mono ?_; rintro e w1 ⟨⟨v1, rfl, h1⟩, hb1⟩; have H1 := Lib.hid h1; have B1 := Lib.hid hb1; clear h1 hb1)
    | (go_at_call 9; refine (HEQ.out _ _ H1.out).mono ?_; rintro e w2 ⟨rfl, hb2⟩; have H2 := Lib.hid hb2; clear hb2)
    | (go_at_call 10; refine (HNE.out _ _ H3.out).mono ?_; rintro e w4 ⟨rfl, hb4⟩; have H4 := Lib.hid hb4; clear hb4))
  go_ret
  exact ⟨rfl, bt2 B1.out (bt2 H2.out (bt2 B3.out H4.out))⟩
end Go.Proofs.Ytmndkbfjmamnfaa
