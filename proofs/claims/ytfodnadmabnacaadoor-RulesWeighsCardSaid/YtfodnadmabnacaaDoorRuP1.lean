/- The program's rules: the row of a number; Relation, Code, Name: the contracts. -/
import Derived.Test.YtfodnadmabnacaaDoorRuLaid
namespace Go.Proofs.YtfodnadmabnacaaDoor
open Go.RowKit Base Base2

theorem prog_len : progTab.length = 24 := rfl
theorem prog_at {n : Nat} (h : 1 ≤ n) (h2 : n ≤ 23) : progTab[n]? = some (rowT n) := by
  rw [row_yes (by omega), show ((n : Int)).toNat = n from rfl]
  match n, h, h2 with
  | k + 1, h, h2 =>
    rw [show progTab[k + 1]? = tabT[k + 1]? from rfl, List.getD_eq_getElem?_getD]
    obtain ⟨r, hr⟩ : ∃ r, tabT[k + 1]? = some r := ⟨_, List.getElem?_eq_getElem (by show k + 1 < 24; omega)⟩
    rw [hr]; rfl
/-- The row that the program takes for a number. -/
def rowP (n : Int) : ByteArray × Int × Int := if 1 ≤ n ∧ n ≤ 23 then rowT n else (⟨#[63]⟩, 0, 0)
theorem rowP_rel (n : Int) : (rowP n).2.1 = (rowT n).2.1 := by
  unfold rowP; split
  · rfl
  · rename_i h; rw [row_no (by omega)]
theorem rowP_code (n : Int) : (rowP n).2.2 = (rowT n).2.2 := by
  unfold rowP; split
  · rfl
  · rename_i h; rw [row_no (by omega)]
theorem rowP_name (n : Int) : (rowP n).1 = nameS n := by
  unfold rowP nameS; split
  · rfl
  · rfl
set_option maxRecDepth 100000 in
theorem known24 (n : Int) (w : World) (hn : in8 n) : Calls Tryd.prog 24 #[.int .i64 n] w fun e w' => e = .returned (.bool (decide (1 ≤ n) && decide (n ≤ 23))) ∧ w' = w := by
  obtain ⟨b1, b2⟩ := hn
  obtain ⟨B, hB⟩ : ∃ B, (decide (1 ≤ n) && decide (n ≤ 23)) = B := ⟨_, rfl⟩
  rw [hB]
  by_cases h1 : 1 ≤ n
  · by_cases h2 : n ≤ 23
    · obtain rfl : B = true := by rw [← hB, decide_eq_true h1, decide_eq_true h2]; rfl
      have g1 : 0 < n := by omega
      have g2 : n < 24 := by omega
      clear hB
      go_enter Tryd.func24, Tryd.ntmps24
      go_wp2
      go_ret
      exact ⟨rfl, rfl⟩
    · obtain rfl : B = false := by rw [← hB, decide_eq_false h2, Bool.and_false]
      have g1 : 0 < n := by omega
      have g2 : ¬ n < 24 := by omega
      clear hB
      go_enter Tryd.func24, Tryd.ntmps24
      go_wp2
      go_ret
      exact ⟨rfl, rfl⟩
  · obtain rfl : B = false := by rw [← hB, decide_eq_false h1]; rfl
    have g1 : ¬ 0 < n := by omega
    clear hB
    go_enter Tryd.func24, Tryd.ntmps24
    go_wp2
    go_ret
    exact ⟨rfl, rfl⟩
theorem infoRow : (Tryd.prog.info? 44).map (·.size) = some 3 := by kernel_rfl
set_option maxRecDepth 100000 in
set_option maxHeartbeats 4000000 in
theorem at19 (n : Int) (w : World) (hK : KAll w) (hn : in8 n) : Calls Tryd.prog 19 #[.int .i64 n] w fun e w' => e = .returned (.agg #[.string (rowP n).1, .int .i64 (rowP n).2.1, .int .i64 (rowP n).2.2]) ∧ Below w.heap.size w w' := by
  obtain ⟨W1, hW1⟩ : ∃ z, w.alloc (.cells #[.string ⟨#[]⟩, .int .i64 0, .int .i64 0] 44) = z := ⟨_, rfl⟩
  have hb : Below w.heap.size w W1 := by rw [← hW1]; exact (Below.refl _ _).alloc (Nat.le_refl _) _
  have h1 : W1.heap[w.heap.size]? = some (.cells #[.string ⟨#[]⟩, .int .i64 0, .int .i64 0] 44 (0, 0)) := by rw [← hW1]; exact heap_alloc_new w _
  have HT := Lib.hid (k_keep _ _ hK hb).1
  have HB := Lib.hid hb
  have H1 := Lib.hid h1
  have HW := Lib.hid hW1
  have HKN := Lib.hid (known24 n W1 hn)
  obtain ⟨b1, b2⟩ := hn
  clear hK hb h1 hW1
  go_enter Tryd.func19, Tryd.ntmps19
  go_upto_region 1 with (fail)
  refine at_world (Φ := fun W => W = W1) HW.out ?_
  rintro W rfl
  clear HW
  by_cases hr : 1 ≤ n ∧ n ≤ 23
  · rw [show (decide (1 ≤ n) && decide (n ≤ 23)) = true by rw [decide_eq_true hr.1, decide_eq_true hr.2]; rfl] at HKN
    obtain ⟨k, rfl⟩ := Int.eq_ofNat_of_zero_le (show 0 ≤ n by omega)
    have HR := Lib.hid (show rowP (k : Int) = rowT k from if_pos hr)
    obtain ⟨c0, c1, c2⟩ := HT.out k _ (prog_at (by omega) (by omega))
    generalize rowT (k : Int) = rw_ at *
    obtain ⟨a, b, c⟩ := rw_
    simp only at c0 c1 c2
    have g3 : (k : Int) < 24 := by omega
    have g4 : k < 24 := by omega
    clear hr
    go_wp2_with (first
      | (go_at_call 24; refine HKN.out.mono ?_; rintro e w2 ⟨rfl, rfl⟩)
      | (refine wpList_store_row rfl 44 (.tmp 2) (.tmp 10) rfl w.heap.size #[.string a, .int .i64 b, .int .i64 c] rfl rfl 44 #[.string ⟨#[]⟩, .int .i64 0, .int .i64 0] H1.out infoRow rfl (by simp [Value.oneCell']) ?_))
    refine ret_cell rfl rfl rfl (setRow_heap _ _ _ _ 44 (0, 0) H1.out) Tryd.underlying44 rfl infoRow ⟨by rw [HR.out], below_rowB HB.out (Nat.le_refl _)⟩
  · rw [show (decide (1 ≤ n) && decide (n ≤ 23)) = false by
      by_cases h0 : 1 ≤ n
      · rw [decide_eq_false (show ¬ n ≤ 23 by omega), Bool.and_false]
      · rw [decide_eq_false h0]; rfl] at HKN
    have HR := Lib.hid (show rowP n = (⟨#[63]⟩, 0, 0) from if_neg hr)
    obtain ⟨c0, c1, c2⟩ := HT.out 0 _ rfl
    rw [Nat.zero_mul] at c0 c1 c2
    rw [Nat.zero_add] at c1 c2
    clear hr
    go_wp2_with (first
      | (go_at_call 24; refine HKN.out.mono ?_; rintro e w2 ⟨rfl, rfl⟩)
      | (refine wpList_store_row rfl 44 (.tmp 2) (.tmp 7) rfl w.heap.size #[.string ⟨#[63]⟩, .int .i64 0, .int .i64 0] rfl rfl 44 #[.string ⟨#[]⟩, .int .i64 0, .int .i64 0] H1.out infoRow rfl (by simp [Value.oneCell']) ?_))
    refine ret_cell rfl rfl rfl (setRow_heap _ _ _ _ 44 (0, 0) H1.out) Tryd.underlying44 rfl infoRow ⟨by rw [HR.out], below_rowB HB.out (Nat.le_refl _)⟩
theorem fieldP_nm (a : ByteArray) (b c : Int) (W : World) : (Instr.field 44 (.agg #[.string a, .int .i64 b, .int .i64 c]) 0).run Tryd.prog W = .ok (.string a) W := by kernel_rfl
theorem fieldP_rl (a : ByteArray) (b c : Int) (W : World) : (Instr.field 44 (.agg #[.string a, .int .i64 b, .int .i64 c]) 1).run Tryd.prog W = .ok (.int .i64 b) W := by kernel_rfl
theorem fieldP_cd (a : ByteArray) (b c : Int) (W : World) : (Instr.field 44 (.agg #[.string a, .int .i64 b, .int .i64 c]) 2).run Tryd.prog W = .ok (.int .i64 c) W := by kernel_rfl
theorem rel8 (n : Int) (w : World) (hK : KAll w) (hn : in8 n) : Calls Tryd.prog 8 #[.int .i64 n] w fun e w' => e = .returned (.int .i64 (rowT n).2.1) ∧ Below w.heap.size w w' := by
  have HA := Lib.hid (at19 n w hK hn)
  have HR := Lib.hid (rowP_rel n)
  clear hK hn
  have hf := fieldP_rl (rowP n).1 (rowP n).2.1 (rowP n).2.2
  go_enter Tryd.func8, Tryd.ntmps8
  go_wp2_with (go_at_call 19; refine HA.out.mono ?_; rintro e w2 ⟨rfl, hb⟩; have HB := Lib.hid hb; clear hb)
  go_ret
  exact ⟨by rw [HR.out]; rfl, HB.out⟩
theorem code9 (n : Int) (w : World) (hK : KAll w) (hn : in8 n) : Calls Tryd.prog 9 #[.int .i64 n] w fun e w' => e = .returned (.int .i64 (rowT n).2.2) ∧ Below w.heap.size w w' := by
  have HA := Lib.hid (at19 n w hK hn)
  have HR := Lib.hid (rowP_code n)
  clear hK hn
  have hf := fieldP_cd (rowP n).1 (rowP n).2.1 (rowP n).2.2
  go_enter Tryd.func9, Tryd.ntmps9
  go_wp2_with (go_at_call 19; refine HA.out.mono ?_; rintro e w2 ⟨rfl, hb⟩; have HB := Lib.hid hb; clear hb)
  go_ret
  exact ⟨by rw [HR.out]; rfl, HB.out⟩
theorem name10 (n : Int) (w : World) (hK : KAll w) (hn : in8 n) : Calls Tryd.prog 10 #[.int .i64 n] w fun e w' => e = .returned (.string (nameS n)) ∧ Below w.heap.size w w' := by
  have HA := Lib.hid (at19 n w hK hn)
  have HR := Lib.hid (rowP_name n)
  clear hK hn
  have hf := fieldP_nm (rowP n).1 (rowP n).2.1 (rowP n).2.2
  go_enter Tryd.func10, Tryd.ntmps10
  go_wp2_with (go_at_call 19; refine HA.out.mono ?_; rintro e w2 ⟨rfl, hb⟩; have HB := Lib.hid hb; clear hb)
  go_ret
  exact ⟨by rw [HR.out]; rfl, HB.out⟩
end Go.Proofs.YtfodnadmabnacaaDoor
