/- The program's look-ups in a book: contracts. -/
import Derived.Test.YtmndkbfjmamnfaaBkQ3
import Derived.Test.YtmndkbfjmamnfaaBkLaw
namespace Go.Proofs.Ytmndkbfjmamnfaa
open Go.RowKit Base Base2

theorem valI_some {k : Nat} {p : Item → Bool} {l : List Item} {m : Nat} (h : ItemsOk k m l) : ∃ x : Item, valI k (findL p l) = aggI x ∧ x.length = k ∧ (x = match findL p l with | some y => y | none => List.replicate k 0) := by
  cases hf : findL p l with
  | none => exact ⟨_, rfl, by simp, rfl⟩
  | some x => exact ⟨x, rfl, (h.2 x (find_mem hf)).1, rfl⟩

set_option maxRecDepth 100000 in
set_option maxHeartbeats 4000000 in
theorem progHolder (v : Slots) (b : BookT) (id : Int) (w : World) (hb : BookIn w v b) (hk : ItemsOk 4 2000 b.hs) (hs : riseL lt1 b.hs = true) :
    Calls Try.prog 46 #[.agg (cellsB v b), .int .i64 id] w fun e w' => e = .returned (.tuple #[valH (findL (is1 id) b.hs), .bool (findL (is1 id) b.hs).isSome]) ∧ Below w.heap.size w w' := by
  obtain ⟨W0, hW0⟩ : ∃ W, (w.alloc (.cells (cellsB v b) 27)).alloc (.cells #[.int .i64 0, .int .i64 0, .int .i64 0, .int .i64 0] 45) = W := ⟨_, rfl⟩
  have hlo : Below w.heap.size w W0 := by rw [← hW0]; exact ((Below.refl _ w).alloc (Nat.le_refl _) _).alloc (by simp) _
  have hsz : W0.heap.size = w.heap.size + 2 := by rw [← hW0]; simp
  have hx : BoxB W0 w.heap.size v b ∧ W0.heap[w.heap.size + 1]? = some (.cells #[.int .i64 0, .int .i64 0, .int .i64 0, .int .i64 0] 45) := by rw [← hW0]; exact two_new
  obtain ⟨c0, c1, c2, c3, c4⟩ := hx.1.cells
  have HG := Lib.hid (show ∀ W, Below (w.heap.size + 2) W0 W → W.heap[w.heap.size + 1]? = some (.cells #[.int .i64 0, .int .i64 0, .int .i64 0, .int .i64 0] 45 (0, 0)) from fun W h => (h.block _ (by omega)).trans hx.2)
  have HLO := Lib.hid hlo
  have HSZ := Lib.hid hsz
  have HF := Lib.hid (fun W (h : Below w.heap.size w W) => findHolder v.h v.ch b.hs id W (hb.hs.below h) hk hs)
  have hval : valI 4 (findL (is1 id) b.hs) = valH (findL (is1 id) b.hs) := by cases findL (is1 id) b.hs <;> rfl
  obtain ⟨x, hx1, hx2, _⟩ := valI_some (p := is1 id) hk
  rw [← hval]
  rw [hx1] at HF ⊢
  obtain ⟨p, q, r, s, rfl⟩ := item4 hx2
  clear hx hlo hsz hb hk hs hval hx1 hx2
  generalize (findL (is1 id) b.hs).isSome = B1 at *
  unfold cellsB at *
  have HF2 := Lib.hid (show ∀ W, Below w.heap.size w W → Calls Try.prog 82 _ W (fun e w' => e = .returned (.tuple #[.agg #[.int .i64 p, .int .i64 q, .int .i64 r, .int .i64 s], .bool B1]) ∧ Below W.heap.size W w') from HF.out)
  clear HF
  show Calls Try.prog 46 _ w (fun e w' => e = .returned (.tuple #[.agg #[.int .i64 p, .int .i64 q, .int .i64 r, .int .i64 s], .bool B1]) ∧ Below w.heap.size w w')
  go_enter Try.func46, Try.ntmps46
  go_wp2_with (first | ((with_reducible refine atStore (ty := 45) (x := .tmp 4) (y := .tmp 10) rfl ?_); refine wpList_store_row rfl 45 (.tmp 4) (.tmp 10) rfl (w.heap.size + 1) #[.int .i64 p, .int .i64 q, .int .i64 r, .int .i64 s] rfl rfl 45 #[.int .i64 0, .int .i64 0, .int .i64 0, .int .i64 0] (HG.out _ HY.out) info33 rfl (by simp [Value.oneCell']) ?_) | (go_at_call 82; refine (HF2.out _ HLO.out).mono ?_; rintro e y ⟨rfl, hy⟩; have HY := Lib.hid (show Below (w.heap.size + 2) W0 y from hy.mono (by rw [HSZ.out]; exact Nat.le_refl _)); have HYW := Lib.hid (HLO.out.trans (hy.mono HLO.out.size))))
  refine ret_cell_tmp rfl rfl rfl rfl (setRow_heap _ _ _ _ _ _ (HG.out _ HY.out)) Try.underlying45 rfl info33 ?_
  exact ⟨rfl, below_row1 HYW.out (by omega)⟩

set_option maxRecDepth 100000 in
set_option maxHeartbeats 4000000 in
theorem progRate (v : Slots) (b : BookT) (id : Int) (w : World) (hb : BookIn w v b) (hk : ItemsOk 2 2000 b.rs) (hs : riseL lt1 b.rs = true) :
    Calls Try.prog 50 #[.agg (cellsB v b), .int .i64 id] w fun e w' => e = .returned (.tuple #[.int .i64 (valR (findL (is1 id) b.rs)), .bool (findL (is1 id) b.rs).isSome]) ∧ Below w.heap.size w w' := by
  obtain ⟨W0, hW0⟩ : ∃ W, (w.alloc (.cells (cellsB v b) 27)) = W := ⟨_, rfl⟩
  have hlo : Below w.heap.size w W0 := by rw [← hW0]; exact (Below.refl _ w).alloc (Nat.le_refl _) _
  have hx : BoxB W0 w.heap.size v b := by rw [← hW0]; exact BoxB.new w v b
  obtain ⟨c0, c1, c2, c3, c4⟩ := hx.cells
  have HLO := Lib.hid hlo
  have HF := Lib.hid (fun W (h : Below w.heap.size w W) => findRate v.r v.cr b.rs id W (hb.rs.below h) hk hs)
  obtain ⟨x, hx1, hx2, hx3⟩ := valI_some (p := is1 id) hk
  have hval : valR (findL (is1 id) b.rs) = key 1 x := by rw [hx3]; cases findL (is1 id) b.rs <;> rfl
  rw [hval]
  rw [hx1] at HF
  obtain ⟨p, q, rfl⟩ := item2 hx2
  clear hx hlo hb hk hs hval hx1 hx2 hx3
  generalize (findL (is1 id) b.rs).isSome = B1 at *
  unfold cellsB at *
  have HF2 := Lib.hid (show ∀ W, Below w.heap.size w W → Calls Try.prog 86 _ W (fun e w' => e = .returned (.tuple #[.agg #[.int .i64 p, .int .i64 q], .bool B1]) ∧ Below W.heap.size W w') from HF.out)
  clear HF
  show Calls Try.prog 50 _ w (fun e w' => e = .returned (.tuple #[.int .i64 q, .bool B1]) ∧ Below w.heap.size w w')
  go_enter Try.func50, Try.ntmps50
  go_upto_region 2 with (first | ((with_reducible refine atStore (ty := 67) (x := (.tmp 6)) (y := (.tmp 13)) rfl ?_); refine wpList_store_row rfl 67 (.tmp 6) (.tmp 13) rfl y.heap.size #[.int .i64 p, .int .i64 q] rfl rfl 67 #[.int .i64 0, .int .i64 0] (heap_alloc_new y _) info47 rfl (by simp [Value.oneCell']) ?_) | (go_at_call 86; refine (HF2.out _ HLO.out).mono ?_; rintro e y ⟨rfl, hy⟩))
  have hbB := hy.trans ((below_rowB ((Below.refl _ y).alloc (Nat.le_refl _) (.cells #[.int .i64 0, .int .i64 0] 67)) (Nat.le_refl _) (ks := #[.int .i64 p, .int .i64 q])).mono hy.size)
  refine at_world (Φ := fun W => Below w.heap.size w W ∧ W.cell? ⟨y.heap.size, 1, none⟩ = some (.int .i64 q)) ⟨HLO.out.trans (hbB.mono HLO.out.size), cell_of_row _ _ 1 _ 67 (0, 0) (setRow_heap _ _ _ _ _ _ (heap_alloc_new y _))⟩ ?_
  clear hbB hy HLO HF2 c0 c1 c2 c3 c4
  rintro W3 ⟨hb3, hc3⟩
  have HB3 := Lib.hid hb3
  clear hb3
  go_wp2
  go_ret2
  exact ⟨rfl, HB3.out⟩

set_option maxRecDepth 100000 in
set_option maxHeartbeats 4000000 in
theorem progStake (v : Slots) (b : BookT) (id sy : Int) (w : World) (hb : BookIn w v b) (hk : ItemsOk 3 2000 b.ss) (hs : riseL lt2 b.ss = true) :
    Calls Try.prog 39 #[.agg (cellsB v b), .int .i64 id, .int .i64 sy] w fun e w' => e = .returned (.int .i64 (valS (findL (is2 id sy) b.ss))) ∧ Below w.heap.size w w' := by
  obtain ⟨W0, hW0⟩ : ∃ W, (w.alloc (.cells (cellsB v b) 27)) = W := ⟨_, rfl⟩
  have hlo : Below w.heap.size w W0 := by rw [← hW0]; exact (Below.refl _ w).alloc (Nat.le_refl _) _
  have hx : BoxB W0 w.heap.size v b := by rw [← hW0]; exact BoxB.new w v b
  obtain ⟨c0, c1, c2, c3, c4⟩ := hx.cells
  have HLO := Lib.hid hlo
  have HF := Lib.hid (fun W (h : Below w.heap.size w W) => findStake v.s v.cs b.ss id sy W (hb.ss.below h) hk hs)
  obtain ⟨x, hx1, hx2, hx3⟩ := valI_some (p := is2 id sy) hk
  have hval : valS (findL (is2 id sy) b.ss) = key 2 x := by rw [hx3]; cases findL (is2 id sy) b.ss <;> rfl
  rw [hval]
  rw [hx1] at HF
  obtain ⟨p, q, r, rfl⟩ := item3 hx2
  clear hx hlo hb hk hs hval hx1 hx2 hx3
  generalize (findL (is2 id sy) b.ss).isSome = B1 at *
  unfold cellsB at *
  have HF2 := Lib.hid (show ∀ W, Below w.heap.size w W → Calls Try.prog 60 _ W (fun e w' => e = .returned (.tuple #[.agg #[.int .i64 p, .int .i64 q, .int .i64 r], .bool B1]) ∧ Below W.heap.size W w') from HF.out)
  clear HF
  show Calls Try.prog 39 _ w (fun e w' => e = .returned (.int .i64 r) ∧ Below w.heap.size w w')
  go_enter Try.func39, Try.ntmps39
  go_upto_region 2 with (first | ((with_reducible refine atStore (ty := 43) (x := (.tmp 7)) (y := (.tmp 16)) rfl ?_); refine wpList_store_row rfl 43 (.tmp 7) (.tmp 16) rfl y.heap.size #[.int .i64 p, .int .i64 q, .int .i64 r] rfl rfl 43 #[.int .i64 0, .int .i64 0, .int .i64 0] (heap_alloc_new y _) info45 rfl (by simp [Value.oneCell']) ?_) | (go_at_call 60; refine (HF2.out _ HLO.out).mono ?_; rintro e y ⟨rfl, hy⟩))
  have hbB := hy.trans ((below_rowB ((Below.refl _ y).alloc (Nat.le_refl _) (.cells #[.int .i64 0, .int .i64 0, .int .i64 0] 43)) (Nat.le_refl _) (ks := #[.int .i64 p, .int .i64 q, .int .i64 r])).mono hy.size)
  refine at_world (Φ := fun W => Below w.heap.size w W ∧ W.cell? ⟨y.heap.size, 2, none⟩ = some (.int .i64 r)) ⟨HLO.out.trans (hbB.mono HLO.out.size), cell_of_row _ _ 2 _ 43 (0, 0) (setRow_heap _ _ _ _ _ _ (heap_alloc_new y _))⟩ ?_
  clear hbB hy HLO HF2 c0 c1 c2 c3 c4
  rintro W3 ⟨hb3, hc3⟩
  have HB3 := Lib.hid hb3
  clear hb3
  go_wp2
  go_ret
  exact ⟨rfl, HB3.out⟩
end Go.Proofs.Ytmndkbfjmamnfaa
