/- The document's table of rules: the contract. -/
import Derived.Test.YtfodnadmabnacaaDoorRuMath
namespace Go.Proofs.YtfodnadmabnacaaDoor
open Go.RowKit Base Base2

theorem infoRowR : (Tryd.prog.info? 26).map (·.size) = some 3 := by kernel_rfl
def rowV (r : ByteArray × Int × Int) : Value := .agg #[.string r.1, .int .i64 r.2.1, .int .i64 r.2.2]
theorem blk_ltR {W : World} {k : Nat} {o : Obj} (h : W.heap[k]? = some o) : k < W.heap.size := (Array.getElem?_eq_some_iff.1 h).1
set_option maxRecDepth 100000 in
set_option maxHeartbeats 8000000 in
theorem rtable7 (n : Int) (w : World) : Calls Tryd.prog 7 #[.int .i64 n] w fun e w' => e = .returned (rowV (rowT n)) ∧ Below w.heap.size w w' := by
  obtain ⟨W1, hW1⟩ : ∃ x, (w.alloc (.cells #[.string ⟨#[]⟩, .int .i64 0, .int .i64 0] 26)).alloc (.cells tabC.toArray 26) = x := ⟨_, rfl⟩
  have hb : Below w.heap.size w W1 := by rw [← hW1]; exact ((Below.refl _ w).alloc (Nat.le_refl _) _).alloc (by simp) _
  have h1 : W1.heap[w.heap.size]? = some (.cells #[.string ⟨#[]⟩, .int .i64 0, .int .i64 0] 26 (0, 0)) := by
    rw [← hW1]
    exact (((Below.refl _ _).alloc (Nat.le_refl _) _ : Below (w.alloc (.cells #[.string ⟨#[]⟩, .int .i64 0, .int .i64 0] 26)).heap.size _ ((w.alloc (.cells #[.string ⟨#[]⟩, .int .i64 0, .int .i64 0] 26)).alloc (.cells tabC.toArray 26))).block _ (by simp)).trans (heap_alloc_new w _)
  have h2 : W1.heap[w.heap.size + 1]? = some (.cells tabC.toArray 26 (0, 0)) := by
    rw [← hW1]
    have := heap_alloc_new (w.alloc (.cells #[.string ⟨#[]⟩, .int .i64 0, .int .i64 0] 26)) (.cells tabC.toArray 26)
    rw [World.size_alloc] at this
    exact this
  have HB := Lib.hid hb
  have H1 := Lib.hid h1
  have H2 := Lib.hid h2
  have HW := Lib.hid hW1
  clear hb h1 h2 hW1
  go_enter Tryd.func7, Tryd.ntmps7
  go_upto_region 2 with (fail)
  refine at_world (Φ := fun W => W = W1) HW.out ?_
  rintro W rfl
  clear HW
  by_cases hn : 1 ≤ n ∧ n ≤ 23
  · obtain ⟨k, rfl⟩ := Int.eq_ofNat_of_zero_le (show 0 ≤ n by omega)
    have HR := Lib.hid (row_yes hn)
    obtain ⟨t0, t1, t2⟩ := tab_at k (by omega)
    have c0 : W.cell? ⟨w.heap.size + 1, k * 3, none⟩ = some (.string (tabT.getD k (⟨#[]⟩, 0, 0)).1) := by rw [cell_of_row _ _ _ _ _ _ H2.out]; simpa using t0
    have c1 : W.cell? ⟨w.heap.size + 1, k * 3 + 1, none⟩ = some (.int .i64 (tabT.getD k (⟨#[]⟩, 0, 0)).2.1) := by rw [cell_of_row _ _ _ _ _ _ H2.out]; simpa using t1
    have c2 : W.cell? ⟨w.heap.size + 1, k * 3 + 2, none⟩ = some (.int .i64 (tabT.getD k (⟨#[]⟩, 0, 0)).2.2) := by rw [cell_of_row _ _ _ _ _ _ H2.out]; simpa using t2
    rw [Int.toNat_natCast] at HR
    generalize tabT.getD k (⟨#[]⟩, 0, 0) = rw_ at *
    obtain ⟨a, b, c⟩ := rw_
    simp only at c0 c1 c2
    clear t0 t1 t2
    have g1 : ¬ (k : Int) < 1 := by omega
    have g2 : ¬ (23 : Int) < (k : Int) := by omega
    have g3 : (k : Int) < 24 := by omega
    have g4 : k < 24 := by omega
    clear hn
    go_wp2_with (refine wpList_store_row rfl 26 (.tmp 2) (.tmp 39) rfl w.heap.size #[.string a, .int .i64 b, .int .i64 c] rfl rfl 26 #[.string ⟨#[]⟩, .int .i64 0, .int .i64 0] H1.out infoRowR rfl (by simp [Value.oneCell']) ?_)
    refine ret_cell rfl rfl rfl (setRow_heap _ _ _ _ 26 (0, 0) H1.out) Tryd.underlying26 rfl infoRowR ⟨by rw [HR.out]; rfl, below_rowB HB.out (Nat.le_refl _)⟩
  · have HR := Lib.hid (row_no (n := n) (by omega))
    have HE : rowV (rowT n) = .agg #[.string ⟨#[]⟩, .int .i64 0, .int .i64 0] := by rw [HR.out]; rfl
    have HE' := Lib.hid HE
    clear HE HR
    by_cases h1 : n < 1
    · clear hn
      go_wp2_with (refine wpList_store_row rfl 26 (.tmp 2) (.tmp 35) rfl w.heap.size #[.string ⟨#[]⟩, .int .i64 0, .int .i64 0] rfl rfl 26 #[.string ⟨#[]⟩, .int .i64 0, .int .i64 0] H1.out infoRowR rfl (by simp [Value.oneCell']) ?_)
      refine ret_cell rfl rfl rfl (setRow_heap _ _ _ _ 26 (0, 0) H1.out) Tryd.underlying26 rfl infoRowR ⟨by rw [HE'.out], below_rowB HB.out (Nat.le_refl _)⟩
    · have h2 : 23 < n := by omega
      clear hn
      go_wp2_with (refine wpList_store_row rfl 26 (.tmp 2) (.tmp 35) rfl w.heap.size #[.string ⟨#[]⟩, .int .i64 0, .int .i64 0] rfl rfl 26 #[.string ⟨#[]⟩, .int .i64 0, .int .i64 0] H1.out infoRowR rfl (by simp [Value.oneCell']) ?_)
      refine ret_cell rfl rfl rfl (setRow_heap _ _ _ _ 26 (0, 0) H1.out) Tryd.underlying26 rfl infoRowR ⟨by rw [HE'.out], below_rowB HB.out (Nat.le_refl _)⟩
end Go.Proofs.YtfodnadmabnacaaDoor
