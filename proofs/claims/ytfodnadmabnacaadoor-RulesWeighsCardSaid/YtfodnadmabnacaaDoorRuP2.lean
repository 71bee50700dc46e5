/- The program's relations, the relation of a rule, whether a step holds: the contracts. -/
import Derived.Test.YtfodnadmabnacaaDoorRuP1
namespace Go.Proofs.YtfodnadmabnacaaDoor
open Go.RowKit Base Base2

/-- The function that the program takes for a relation. -/
def relF (k : Int) : Nat := if k = 1 then 28 else if k = 2 then 29 else if k = 3 then 30 else 27
theorem infoRels : (Tryd.prog.info? 57).map (·.size) = some 8 := by kernel_rfl
theorem infoRel : (Tryd.prog.info? 48).map (·.size) = some 2 := by kernel_rfl
theorem tab_rel : ∀ k : Nat, k < 24 → (tabT.getD k (⟨#[]⟩, 0, 0)).2.1 = 0 ∨ (tabT.getD k (⟨#[]⟩, 0, 0)).2.1 = 1 ∨ (tabT.getD k (⟨#[]⟩, 0, 0)).2.1 = 2 ∨ (tabT.getD k (⟨#[]⟩, 0, 0)).2.1 = 3
  | 0, _ => .inl rfl
  | 1, _ => .inr (.inr (.inl rfl))
  | 2, _ => .inr (.inl rfl)
  | 3, _ => .inr (.inr (.inl rfl))
  | 4, _ => .inr (.inl rfl)
  | 5, _ => .inr (.inr (.inl rfl))
  | 6, _ => .inr (.inr (.inl rfl))
  | 7, _ => .inr (.inr (.inl rfl))
  | 8, _ => .inr (.inr (.inl rfl))
  | 9, _ => .inr (.inr (.inl rfl))
  | 10, _ => .inr (.inr (.inr rfl))
  | 11, _ => .inr (.inr (.inr rfl))
  | 12, _ => .inr (.inr (.inr rfl))
  | 13, _ => .inr (.inr (.inr rfl))
  | 14, _ => .inr (.inr (.inr rfl))
  | 15, _ => .inr (.inl rfl)
  | 16, _ => .inr (.inl rfl)
  | 17, _ => .inr (.inl rfl)
  | 18, _ => .inr (.inl rfl)
  | 19, _ => .inr (.inl rfl)
  | 20, _ => .inr (.inl rfl)
  | 21, _ => .inr (.inl rfl)
  | 22, _ => .inr (.inr (.inr rfl))
  | 23, _ => .inr (.inr (.inr rfl))
  | k + 24, h => absurd h (by omega)
theorem row_rel (n : Int) : (rowT n).2.1 = 0 ∨ (rowT n).2.1 = 1 ∨ (rowT n).2.1 = 2 ∨ (rowT n).2.1 = 3 := by
  by_cases h : 1 ≤ n ∧ n ≤ 23
  · rw [row_yes h]; exact tab_rel _ (by omega)
  · rw [row_no (by omega)]; exact .inl rfl
set_option maxRecDepth 100000 in
set_option maxHeartbeats 8000000 in
theorem relations25 (w : World) : Calls Tryd.prog 25 #[] w fun e w' => e = .returned (.agg #[.string ⟨#[63]⟩, .func (.func 27) #[] #[], .string ⟨#[60, 61]⟩, .func (.func 28) #[] #[], .string ⟨#[62, 61]⟩, .func (.func 29) #[] #[], .string ⟨#[61]⟩, .func (.func 30) #[] #[]]) ∧ Below w.heap.size w w' := by
  obtain ⟨W1, hW1⟩ : ∃ z, w.alloc (.cells #[.string ⟨#[]⟩, .nilFunc, .string ⟨#[]⟩, .nilFunc, .string ⟨#[]⟩, .nilFunc, .string ⟨#[]⟩, .nilFunc] 57) = z := ⟨_, rfl⟩
  have hb : Below w.heap.size w W1 := by rw [← hW1]; exact (Below.refl _ _).alloc (Nat.le_refl _) _
  have h1 : W1.heap[w.heap.size]? = some (.cells #[.string ⟨#[]⟩, .nilFunc, .string ⟨#[]⟩, .nilFunc, .string ⟨#[]⟩, .nilFunc, .string ⟨#[]⟩, .nilFunc] 57 (0, 0)) := by rw [← hW1]; exact heap_alloc_new w _
  have HB := Lib.hid hb
  have H1 := Lib.hid h1
  have HW := Lib.hid hW1
  clear hb h1 hW1
  go_enter Tryd.func25, Tryd.ntmps25
  go_upto_region 1 with (fail)
  refine at_world (Φ := fun W => W = W1) HW.out ?_
  rintro W rfl
  clear HW
  go_wp2_with (refine wpList_store_row rfl 57 (.tmp 0) (.tmp 5) rfl w.heap.size #[.string ⟨#[63]⟩, .func (.func 27) #[] #[], .string ⟨#[60, 61]⟩, .func (.func 28) #[] #[], .string ⟨#[62, 61]⟩, .func (.func 29) #[] #[], .string ⟨#[61]⟩, .func (.func 30) #[] #[]] rfl rfl 57 #[.string ⟨#[]⟩, .nilFunc, .string ⟨#[]⟩, .nilFunc, .string ⟨#[]⟩, .nilFunc, .string ⟨#[]⟩, .nilFunc] H1.out infoRels rfl (by simp [Value.oneCell']) ?_)
  refine ret_cell rfl rfl rfl (setRow_heap _ _ _ _ 57 (0, 0) H1.out) Tryd.underlying57 rfl infoRels ⟨rfl, below_rowB HB.out (Nat.le_refl _)⟩
theorem pick0 (W : World) : (Instr.index 57 (.agg #[.string ⟨#[63]⟩, .func (.func 27) #[] #[], .string ⟨#[60, 61]⟩, .func (.func 28) #[] #[], .string ⟨#[62, 61]⟩, .func (.func 29) #[] #[], .string ⟨#[61]⟩, .func (.func 30) #[] #[]]) (.int .i64 0)).run Tryd.prog W = .ok (.agg #[.string ⟨#[63]⟩, .func (.func 27) #[] #[]]) W := by kernel_rfl
theorem pick1 (W : World) : (Instr.index 57 (.agg #[.string ⟨#[63]⟩, .func (.func 27) #[] #[], .string ⟨#[60, 61]⟩, .func (.func 28) #[] #[], .string ⟨#[62, 61]⟩, .func (.func 29) #[] #[], .string ⟨#[61]⟩, .func (.func 30) #[] #[]]) (.int .i64 1)).run Tryd.prog W = .ok (.agg #[.string ⟨#[60, 61]⟩, .func (.func 28) #[] #[]]) W := by kernel_rfl
theorem pick2 (W : World) : (Instr.index 57 (.agg #[.string ⟨#[63]⟩, .func (.func 27) #[] #[], .string ⟨#[60, 61]⟩, .func (.func 28) #[] #[], .string ⟨#[62, 61]⟩, .func (.func 29) #[] #[], .string ⟨#[61]⟩, .func (.func 30) #[] #[]]) (.int .i64 2)).run Tryd.prog W = .ok (.agg #[.string ⟨#[62, 61]⟩, .func (.func 29) #[] #[]]) W := by kernel_rfl
theorem pick3 (W : World) : (Instr.index 57 (.agg #[.string ⟨#[63]⟩, .func (.func 27) #[] #[], .string ⟨#[60, 61]⟩, .func (.func 28) #[] #[], .string ⟨#[62, 61]⟩, .func (.func 29) #[] #[], .string ⟨#[61]⟩, .func (.func 30) #[] #[]]) (.int .i64 3)).run Tryd.prog W = .ok (.agg #[.string ⟨#[61]⟩, .func (.func 30) #[] #[]]) W := by kernel_rfl
set_option maxRecDepth 100000 in
set_option maxHeartbeats 8000000 in
theorem related20 (n : Int) (w : World) (hK : KAll w) (hn : in8 n) : Calls Tryd.prog 20 #[.int .i64 n] w fun e w' => e = .returned (.agg #[.string (signS (rowT n).2.1), .func (.func (relF (rowT n).2.1)) #[] #[]]) ∧ Below w.heap.size w w' := by
  obtain ⟨W1, hW1⟩ : ∃ z, w.alloc (.cells #[.string ⟨#[]⟩, .nilFunc] 48) = z := ⟨_, rfl⟩
  have hb : Below w.heap.size w W1 := by rw [← hW1]; exact (Below.refl _ _).alloc (Nat.le_refl _) _
  have h1 : W1.heap[w.heap.size]? = some (.cells #[.string ⟨#[]⟩, .nilFunc] 48 (0, 0)) := by rw [← hW1]; exact heap_alloc_new w _
  have HRS := Lib.hid (relations25 W1)
  have HFD := Lib.hid (fun W (h : Below W1.heap.size W1 W) => at19 n W (k_keep _ _ (k_keep _ _ hK hb) h) hn)
  rw [rowP_rel] at HFD
  have HB := Lib.hid hb
  have H1 := Lib.hid h1
  have HW := Lib.hid hW1
  have hrr := row_rel n
  clear hK hn hb h1 hW1
  generalize (rowT n).2.1 = r at *
  generalize (rowP n).1 = nm at *
  generalize (rowP n).2.2 = cd at *
  have hf := fun W => fieldP_rl nm r cd W
  go_enter Tryd.func20, Tryd.ntmps20
  go_upto_region 1 with (fail)
  refine at_world (Φ := fun W => W = W1) HW.out ?_
  rintro W rfl
  clear HW
  rcases hrr with rfl | rfl | rfl | rfl
  · have hp := pick0
    go_wp2_with (first
      | (go_at_call 25; refine HRS.out.mono ?_; rintro e w2 ⟨rfl, hb2⟩; have HB2 := Lib.hid hb2; clear hb2)
      | (go_at_call 19; refine (HFD.out _ HB2.out).mono ?_; rintro e w3 ⟨rfl, hb3⟩; have HB3 := Lib.hid (HB2.out.trans (hb3.mono HB2.out.size)); have H3 := Lib.hid ((HB3.out.block _ (blk_ltR H1.out)).trans H1.out); clear hb3)
      | (refine wpList_store_row rfl 48 (.tmp 2) (.tmp 7) rfl w.heap.size #[.string ⟨#[63]⟩, .func (.func 27) #[] #[]] rfl rfl 48 #[.string ⟨#[]⟩, .nilFunc] H3.out infoRel rfl (by simp [Value.oneCell']) ?_))
    refine ret_cell rfl rfl rfl (setRow_heap _ _ _ _ 48 (0, 0) H3.out) Tryd.underlying48 rfl infoRel ⟨rfl, below_rowB (HB.out.trans (HB3.out.mono HB.out.size)) (Nat.le_refl _)⟩
  · have hp := pick1
    go_wp2_with (first
      | (go_at_call 25; refine HRS.out.mono ?_; rintro e w2 ⟨rfl, hb2⟩; have HB2 := Lib.hid hb2; clear hb2)
      | (go_at_call 19; refine (HFD.out _ HB2.out).mono ?_; rintro e w3 ⟨rfl, hb3⟩; have HB3 := Lib.hid (HB2.out.trans (hb3.mono HB2.out.size)); have H3 := Lib.hid ((HB3.out.block _ (blk_ltR H1.out)).trans H1.out); clear hb3)
      | (refine wpList_store_row rfl 48 (.tmp 2) (.tmp 7) rfl w.heap.size #[.string ⟨#[60, 61]⟩, .func (.func 28) #[] #[]] rfl rfl 48 #[.string ⟨#[]⟩, .nilFunc] H3.out infoRel rfl (by simp [Value.oneCell']) ?_))
    refine ret_cell rfl rfl rfl (setRow_heap _ _ _ _ 48 (0, 0) H3.out) Tryd.underlying48 rfl infoRel ⟨rfl, below_rowB (HB.out.trans (HB3.out.mono HB.out.size)) (Nat.le_refl _)⟩
  · have hp := pick2
    go_wp2_with (first
      | (go_at_call 25; refine HRS.out.mono ?_; rintro e w2 ⟨rfl, hb2⟩; have HB2 := Lib.hid hb2; clear hb2)
      | (go_at_call 19; refine (HFD.out _ HB2.out).mono ?_; rintro e w3 ⟨rfl, hb3⟩; have HB3 := Lib.hid (HB2.out.trans (hb3.mono HB2.out.size)); have H3 := Lib.hid ((HB3.out.block _ (blk_ltR H1.out)).trans H1.out); clear hb3)
      | (refine wpList_store_row rfl 48 (.tmp 2) (.tmp 7) rfl w.heap.size #[.string ⟨#[62, 61]⟩, .func (.func 29) #[] #[]] rfl rfl 48 #[.string ⟨#[]⟩, .nilFunc] H3.out infoRel rfl (by simp [Value.oneCell']) ?_))
    refine ret_cell rfl rfl rfl (setRow_heap _ _ _ _ 48 (0, 0) H3.out) Tryd.underlying48 rfl infoRel ⟨rfl, below_rowB (HB.out.trans (HB3.out.mono HB.out.size)) (Nat.le_refl _)⟩
  · have hp := pick3
    go_wp2_with (first
      | (go_at_call 25; refine HRS.out.mono ?_; rintro e w2 ⟨rfl, hb2⟩; have HB2 := Lib.hid hb2; clear hb2)
      | (go_at_call 19; refine (HFD.out _ HB2.out).mono ?_; rintro e w3 ⟨rfl, hb3⟩; have HB3 := Lib.hid (HB2.out.trans (hb3.mono HB2.out.size)); have H3 := Lib.hid ((HB3.out.block _ (blk_ltR H1.out)).trans H1.out); clear hb3)
      | (refine wpList_store_row rfl 48 (.tmp 2) (.tmp 7) rfl w.heap.size #[.string ⟨#[61]⟩, .func (.func 30) #[] #[]] rfl rfl 48 #[.string ⟨#[]⟩, .nilFunc] H3.out infoRel rfl (by simp [Value.oneCell']) ?_))
    refine ret_cell rfl rfl rfl (setRow_heap _ _ _ _ 48 (0, 0) H3.out) Tryd.underlying48 rfl infoRel ⟨rfl, below_rowB (HB.out.trans (HB3.out.mono HB.out.size)) (Nat.le_refl _)⟩
theorem rel_f0 (x y : Int) (w : World) : Calls Tryd.prog 27 #[.int .i64 x, .int .i64 y] w fun e w' => e = .returned (.bool (relB 0 x y)) ∧ w' = w := by
  rw [show relB 0 x y = (false) from rfl]
  go_enter Tryd.func27, Tryd.ntmps27
  go_wp2
  go_ret
  exact ⟨rfl, rfl⟩
theorem rel_f1 (x y : Int) (w : World) : Calls Tryd.prog 28 #[.int .i64 x, .int .i64 y] w fun e w' => e = .returned (.bool (relB 1 x y)) ∧ w' = w := by
  rw [show relB 1 x y = (decide (x ≤ y)) from rfl]
  go_enter Tryd.func28, Tryd.ntmps28
  go_wp2
  go_ret
  exact ⟨rfl, rfl⟩
theorem rel_f2 (x y : Int) (w : World) : Calls Tryd.prog 29 #[.int .i64 x, .int .i64 y] w fun e w' => e = .returned (.bool (relB 2 x y)) ∧ w' = w := by
  rw [show relB 2 x y = (decide (y ≤ x)) from rfl]
  go_enter Tryd.func29, Tryd.ntmps29
  go_wp2
  go_ret
  exact ⟨rfl, rfl⟩
theorem rel_f3 (x y : Int) (w : World) : Calls Tryd.prog 30 #[.int .i64 x, .int .i64 y] w fun e w' => e = .returned (.bool (relB 3 x y)) ∧ w' = w := by
  rw [show relB 3 x y = (x == y) from rfl]
  go_enter Tryd.func30, Tryd.ntmps30
  go_wp2
  go_ret
  exact ⟨rfl, rfl⟩
end Go.Proofs.YtfodnadmabnacaaDoor
