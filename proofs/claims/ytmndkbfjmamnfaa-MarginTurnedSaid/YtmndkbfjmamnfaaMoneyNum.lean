/- Numbers of three words in memory: the contracts of the program's add, short, below. -/
import Derived.Test.YtmndkbfjmamnfaaMoneyWord
namespace Go.Proofs.Ytmndkbfjmamnfaa
open Go.RowKit Base

/-- A number's cells. -/
def NumC (a b c : Int) : Array Value := #[.int .u64 a, .int .u64 b, .int .u64 c]
/-- What three words are worth, the highest one's sign told. -/
def Num3 (a b c z : Int) : Prop := Wd a ∧ Wd b ∧ Wd c ∧
  ((c < 9223372036854775808 ∧ z = a + 18446744073709551616 * b + 340282366920938463463374607431768211456 * c) ∨
    (¬ c < 9223372036854775808 ∧ z = a + 18446744073709551616 * b + 340282366920938463463374607431768211456 * c - 6277101735386680763835789423207666416102355444464034512896))
/-- A number's range. -/
def In192 (z : Int) : Prop := -3138550867693340381917894711603833208051177722232017256448 ≤ z ∧ z < 3138550867693340381917894711603833208051177722232017256448
/-- A number lies in a block. -/
def NumAt (W : World) (g T : Nat) (z : Int) : Prop := ∃ a b c, Num3 a b c z ∧ W.heap[g]? = some (.cells (NumC a b c) T (0, 0))
theorem Num3.in {a b c z : Int} (h : Num3 a b c z) : In192 z := by
  unfold Num3 Wd at h; unfold In192; omega
theorem NumAt.below {W W' : World} {g T : Nat} {z : Int} (h : NumAt W g T z) (hb : Below W.heap.size W W') : NumAt W' g T z := by
  obtain ⟨a, b, c, h1, h2⟩ := h
  refine ⟨a, b, c, h1, ?_⟩
  have hlt : g < W.heap.size := by
    rcases Nat.lt_or_ge g W.heap.size with h | h
    · exact h
    · rw [Array.getElem?_eq_none h] at h2; cases h2
  exact (hb.block g hlt).trans h2
theorem grown_transN {a b c : World} {r : Option Nat} (h : a.grownBy b r) (k : b.grownBy c r) : a.grownBy c r :=
  ⟨k.os.trans h.os, k.tape.trans h.tape, k.output.trans h.output, Nat.le_trans h.size k.size, fun i hi hne => (k.block i (by have := h.size; omega) hne).trans (h.block i hi hne)⟩
theorem grown_drewN' {w W : World} {r : Option Nat} (h : w.grownBy W r) : w.grownBy W.drew r := ⟨h.os, h.tape, h.output, h.size, h.block⟩
theorem grown_cellN {w W : World} {g : Nat} (h : w.grownBy W (some g)) (i : Nat) (v : Value) : w.grownBy (W.setCell ⟨g, i, none⟩ v) (some g) := grown_transN h (grown_set W g i v)
theorem grown_rowN {w W : World} {g : Nat} (h : w.grownBy W (some g)) (cs : Array Value) : w.grownBy (W.setRow g cs) (some g) :=
  ⟨h.os, h.tape, h.output, by have := h.size; simpa using this, fun k hk hne => by rw [setRow_other _ _ _ _ (by rintro rfl; exact hne rfl)]; exact h.block k hk hne⟩
/-- The cells of a number. -/
theorem num_cells {W : World} {g T : Nat} {a b c : Int} (h : W.heap[g]? = some (.cells (NumC a b c) T (0, 0))) :
    W.cell? ⟨g, 0, none⟩ = some (.int .u64 a) ∧ W.cell? ⟨g, 1, none⟩ = some (.int .u64 b) ∧ W.cell? ⟨g, 2, none⟩ = some (.int .u64 c) := by
  refine ⟨?_, ?_, ?_⟩ <;> (rw [cell_of_row W g _ _ T (0, 0) h]; rfl)
theorem num_set0 {W : World} {g T : Nat} {a b c : Int} (h : W.heap[g]? = some (.cells (NumC a b c) T (0, 0))) (x : Int) : (W.setCell ⟨g, 0, none⟩ (.int .u64 x)).heap[g]? = some (.cells (NumC x b c) T (0, 0)) := by
  rw [set_blkN h]; rfl
theorem num_set1 {W : World} {g T : Nat} {a b c : Int} (h : W.heap[g]? = some (.cells (NumC a b c) T (0, 0))) (x : Int) : (W.setCell ⟨g, 1, none⟩ (.int .u64 x)).heap[g]? = some (.cells (NumC a x c) T (0, 0)) := by
  rw [set_blkN h]; rfl
theorem num_set2 {W : World} {g T : Nat} {a b c : Int} (h : W.heap[g]? = some (.cells (NumC a b c) T (0, 0))) (x : Int) : (W.setCell ⟨g, 2, none⟩ (.int .u64 x)).heap[g]? = some (.cells (NumC a b x) T (0, 0)) := by
  rw [set_blkN h]; rfl

theorem below28 (g T : Nat) (z : Int) (w : World) (h : NumAt w g T z) : Calls Try.prog 54 #[.pointer (some ⟨g, 0, none⟩)] w fun e w' => e = .returned (.bool (decide (z < 0))) ∧ w = w' := by
  obtain ⟨a, b, c, hn, hg⟩ := h
  obtain ⟨c0, c1, c2⟩ := num_cells hg
  obtain ⟨ha, hb, hc, hz⟩ := hn
  have HS := Lib.hid (sign32 c hc)
  unfold Wd at ha hb
  by_cases hl : c < 9223372036854775808
  · have hd : decide (z < 0) = false := decide_eq_false (by unfold Wd at hc; omega)
    rw [sgnW_lo hl] at HS
    rw [hd]
    clear ha hb hc hz hd hl
    go_enter Try.func54, Try.ntmps54
    go_wp2_with (go_at_call 84; refine HS.out _ |>.mono ?_; rintro e w1 ⟨rfl, rfl⟩)
    go_ret
    exact ⟨rfl, rfl⟩
  · have hd : decide (z < 0) = true := decide_eq_true (by unfold Wd at hc; omega)
    rw [sgnW_hi hl] at HS
    rw [hd]
    clear ha hb hc hz hd hl
    go_enter Try.func54, Try.ntmps54
    go_wp2_with (go_at_call 84; refine HS.out _ |>.mono ?_; rintro e w1 ⟨rfl, rfl⟩)
    go_ret
    exact ⟨rfl, rfl⟩


theorem add_plain (a b c lo hi z x a1 k1 b1 k2 s1 c1 : Int) (hn : Num3 a b c z) (hlo : Wd lo) (hhi : Wd hi) (hx : x = lo + 18446744073709551616 * hi - (if hi < 9223372036854775808 then 0 else 340282366920938463463374607431768211456)) (hr : In192 (z + x))
    (ea : (a + lo) % 18446744073709551616 = a1) (ek : (a + lo) / 18446744073709551616 = k1) (eb : (b + hi + k1) % 18446744073709551616 = b1) (ek2 : (b + hi + k1) / 18446744073709551616 = k2)
    (es : (sgnW hi + k2) % 18446744073709551616 = s1) (ec : (c + s1) % 18446744073709551616 = c1) : Num3 a1 b1 c1 (z + x) := by
  unfold Num3 Wd at *
  unfold In192 at hr
  by_cases h : hi < 9223372036854775808
  · rw [if_pos h] at hx
    rw [sgnW_lo h] at es
    refine ⟨by omega, by omega, by omega, ?_⟩
    by_cases h1 : c1 < 9223372036854775808
    · exact .inl ⟨h1, by omega⟩
    · exact .inr ⟨h1, by omega⟩
  · rw [if_neg h] at hx
    rw [sgnW_hi h] at es
    refine ⟨by omega, by omega, by omega, ?_⟩
    by_cases h1 : c1 < 9223372036854775808
    · exact .inl ⟨h1, by omega⟩
    · exact .inr ⟨h1, by omega⟩

set_option maxRecDepth 100000 in
set_option maxHeartbeats 1000000 in
theorem add25 (g T : Nat) (z lo hi x : Int) (w : World) (h : NumAt w g T z) (hlo : Wd lo) (hhi : Wd hi) (hx : x = lo + 18446744073709551616 * hi - (if hi < 9223372036854775808 then 0 else 340282366920938463463374607431768211456)) (hr : In192 (z + x)) :
    Calls Try.prog 47 #[.pointer (some ⟨g, 0, none⟩), .int .u64 lo, .int .u64 hi] w fun e w' => e = .returned (.tuple #[]) ∧ NumAt w' g T (z + x) ∧ w.grownBy w' (some g) := by
  obtain ⟨a, b, c, hn, hg⟩ := h
  obtain ⟨ha, hb, hc, hz⟩ := hn
  obtain ⟨a1, ea⟩ : ∃ t, (a + lo) % 18446744073709551616 = t := ⟨_, rfl⟩
  obtain ⟨k1, ek⟩ : ∃ t, (a + lo) / 18446744073709551616 = t := ⟨_, rfl⟩
  obtain ⟨b1, eb⟩ : ∃ t, (b + hi + k1) % 18446744073709551616 = t := ⟨_, rfl⟩
  obtain ⟨k2, ek2⟩ : ∃ t, (b + hi + k1) / 18446744073709551616 = t := ⟨_, rfl⟩
  obtain ⟨s1, es⟩ : ∃ t, (sgnW hi + k2) % 18446744073709551616 = t := ⟨_, rfl⟩
  obtain ⟨c1, ec⟩ : ∃ t, (c + s1) % 18446744073709551616 = t := ⟨_, rfl⟩
  have HN := Lib.hid (add_plain a b c lo hi z x a1 k1 b1 k2 s1 c1 ⟨ha, hb, hc, hz⟩ hlo hhi hx hr ea ek eb ek2 es ec)
  have HS := Lib.hid (sign32 hi hhi)
  have HA1 := fun W => add31_0 a lo ha.1 hlo.1 W
  rw [ea, ek] at HA1
  have HA2 := fun W => add31 b hi k1 hb.1 hhi.1 (by have := ha.1; have := hlo.1; omega) (by have := ha.2; have := hlo.2; omega) W
  rw [eb, ek2] at HA2
  have ws : IntKind.u64.wrap (sgnW hi + k2) = s1 := by rw [IntKind.wrap_u64]; exact es
  have wc : IntKind.u64.wrap (c + s1) = c1 := by rw [IntKind.wrap_u64]; exact ec
  generalize sgnW hi = sh at *
  have HG0 := Lib.hid hg
  clear hx hr ea ek eb ek2 es ec ha hb hc hz hlo hhi hg
  go_enter Try.func47, Try.ntmps47
  go_upto_region 1 with (fail)
  have c0 := (num_cells HG0.out).1; have f0 := free_of_blkN HG0.out 0
  refine wp_region_held_drew (S := fun _ => True) (by kernel_rfl) (trivial) (fun hS => ?_)
  refine wpAnyH_take (i := 0) (v := .pointer (some ⟨g, 0, none⟩)) rfl (by kernel_rfl) (by kernel_rfl) (by kernel_rfl) (fun _ _ _ h => h) (Or.inl ⟨by simp [Region.wanted], fun W _ => by go_simp⟩) hS ?_
  simp only [List.getElem_toArray, List.getElem_cons_zero, Act.put, List.setIfInBounds_toArray, List.set_cons_zero, List.set_cons_succ]
  refine wpAnyH_take (i := 1) (v := .pointer (some ⟨g, 0, none⟩)) rfl (by kernel_rfl) (by kernel_rfl) (by kernel_rfl) (fun _ _ _ h => h) (Or.inl ⟨by simp [Region.wanted], fun W _ => by go_simp⟩) hS ?_
  simp only [List.getElem_toArray, List.getElem_cons_zero, List.getElem_cons_succ, Act.put, List.setIfInBounds_toArray, List.set_cons_zero, List.set_cons_succ]
  refine wpAnyH_take (i := 2) (v := .pointer (some ⟨g, 0, none⟩)) rfl (by kernel_rfl) (by kernel_rfl) (by kernel_rfl) (fun _ _ _ h => h) (Or.inl ⟨by simp [Region.wanted], fun W _ => by go_simp⟩) hS ?_
  simp only [List.getElem_toArray, List.getElem_cons_zero, List.getElem_cons_succ, Act.put, List.setIfInBounds_toArray, List.set_cons_zero, List.set_cons_succ]
  refine wpAnyH_take (i := 3) (v := .pointer (some ⟨g, 0, none⟩)) rfl (by kernel_rfl) (by kernel_rfl) (by kernel_rfl) (fun _ _ _ h => h) (Or.inl ⟨by simp [Region.wanted], fun W _ => by go_simp⟩) hS ?_
  simp only [List.getElem_toArray, List.getElem_cons_zero, List.getElem_cons_succ, Act.put, List.setIfInBounds_toArray, List.set_cons_zero, List.set_cons_succ]
  refine wpAnyH_take (i := 5) (v := .int .u64 lo) rfl (by kernel_rfl) (by kernel_rfl) (by kernel_rfl) (fun _ _ _ h => h) (Or.inl ⟨by simp [Region.wanted], fun W _ => by go_simp⟩) hS ?_
  simp only [List.getElem_toArray, List.getElem_cons_zero, List.getElem_cons_succ, Act.put, List.setIfInBounds_toArray, List.set_cons_zero, List.set_cons_succ]
  refine wpAnyH_take (i := 10) (v := .pointer (some ⟨g, 0, none⟩)) rfl (by kernel_rfl) (by kernel_rfl) (by kernel_rfl) (fun _ _ _ h => h) (Or.inl ⟨by simp [Region.wanted], fun W _ => by go_simp⟩) hS ?_
  simp only [List.getElem_toArray, List.getElem_cons_zero, List.getElem_cons_succ, Act.put, List.setIfInBounds_toArray, List.set_cons_zero, List.set_cons_succ]
  refine wpAnyH_ready (rs := [4]) (by kernel_rfl) (by simp) ?_
  refine AllReadyH.cons rfl (fun K1 hK1 => ?_) AllReadyH.nil
  refine wanted_go rfl ?_
  simp only [List.getElem_toArray, List.getElem_cons_zero, List.getElem_cons_succ]
  go_wp2
  refine hK1.out _ _ (trivial) (fun hS1 => ?_)
  refine wpAnyH_ready (rs := [6]) (by kernel_rfl) (by simp) ?_
  refine AllReadyH.cons rfl (fun K2 hK2 => ?_) AllReadyH.nil
  refine wanted_go rfl ?_
  simp only [List.getElem_toArray, List.getElem_cons_zero, List.getElem_cons_succ]
  go_wp2_with (simp only [HA1])
  refine hK2.out _ _ (trivial) (fun hS2 => ?_)
  refine wpAnyH_take (i := 7) (v := .tuple #[.int .u64 a1, .int .u64 k1]) rfl (by kernel_rfl) (by kernel_rfl) (by kernel_rfl) (fun _ _ _ h => h) (Or.inl ⟨by simp [Region.wanted], fun W _ => by go_simp⟩) hS2 ?_
  simp only [List.getElem_toArray, List.getElem_cons_zero, List.getElem_cons_succ, Act.put, List.setIfInBounds_toArray, List.set_cons_zero, List.set_cons_succ]
  refine wpAnyH_take (i := 8) (v := .int .u64 a1) rfl (by kernel_rfl) (by kernel_rfl) (by kernel_rfl) (fun _ _ _ h => h) (Or.inl ⟨by simp [Region.wanted], fun W _ => by go_simp⟩) hS2 ?_
  simp only [List.getElem_toArray, List.getElem_cons_zero, List.getElem_cons_succ, Act.put, List.setIfInBounds_toArray, List.set_cons_zero, List.set_cons_succ]
  refine wpAnyH_take (i := 9) (v := .int .u64 k1) rfl (by kernel_rfl) (by kernel_rfl) (by kernel_rfl) (fun _ _ _ h => h) (Or.inl ⟨by simp [Region.wanted], fun W _ => by go_simp⟩) hS2 ?_
  simp only [List.getElem_toArray, List.getElem_cons_zero, List.getElem_cons_succ, Act.put, List.setIfInBounds_toArray, List.set_cons_zero, List.set_cons_succ]
  refine wpAnyH_take (i := 11) (v := .pointer (some ⟨g, 0, none⟩)) rfl (by kernel_rfl) (by kernel_rfl) (by kernel_rfl) (fun _ _ _ h => h) (Or.inl ⟨by simp [Region.wanted], fun W _ => by go_simp⟩) hS2 ?_
  simp only [List.getElem_toArray, List.getElem_cons_zero, List.getElem_cons_succ, Act.put, List.setIfInBounds_toArray, List.set_cons_zero, List.set_cons_succ]
  refine wpAnyH_ready (rs := [12]) (by kernel_rfl) (by simp) ?_
  refine AllReadyH.cons rfl (fun K3 hK3 => ?_) AllReadyH.nil
  refine wanted_go rfl ?_
  simp only [List.getElem_toArray, List.getElem_cons_zero, List.getElem_cons_succ]
  go_wp2
  refine hK3.out _ _ (trivial) (fun hS3 => ?_)
  refine wpAnyH_take (i := 13) (v := .int .u64 k1) rfl (by kernel_rfl) (by kernel_rfl) (by kernel_rfl) (fun _ _ _ h => h) (Or.inl ⟨by simp [Region.wanted], fun W _ => by go_simp⟩) hS3 ?_
  simp only [List.getElem_toArray, List.getElem_cons_zero, List.getElem_cons_succ, Act.put, List.setIfInBounds_toArray, List.set_cons_zero, List.set_cons_succ]
  refine wpAnyH_done (by kernel_rfl) ?_ _
  go_upto_region 2 with (fail)
  refine at_world (Φ := fun W => W.heap[g]? = some (.cells (NumC a1 b c) T (0, 0)) ∧ w.grownBy W (some g)) ⟨num_set0 (W := w) HG0.out a1, grown_drewN' (grown_cellN (World.grownBy.refl w _) _ _)⟩ ?_
  clear HG0 c0 f0 HA1
  rintro W1 ⟨hg1, hw1⟩
  have HG1 := Lib.hid hg1; have HW1 := Lib.hid hw1
  clear hg1 hw1
  have c0 := (num_cells HG1.out).2.1; have f0 := free_of_blkN HG1.out 1
  refine wp_region_held_drew (S := fun _ => True) (by kernel_rfl) (trivial) (fun hS => ?_)
  refine wpAnyH_take (i := 0) (v := .pointer (some ⟨g, 0, none⟩)) rfl (by kernel_rfl) (by kernel_rfl) (by kernel_rfl) (fun _ _ _ h => h) (Or.inl ⟨by simp [Region.wanted], fun W _ => by go_simp⟩) hS ?_
  simp only [List.getElem_toArray, List.getElem_cons_zero, Act.put, List.setIfInBounds_toArray, List.set_cons_zero, List.set_cons_succ]
  refine wpAnyH_take (i := 1) (v := .pointer (some ⟨g, 0, none⟩)) rfl (by kernel_rfl) (by kernel_rfl) (by kernel_rfl) (fun _ _ _ h => h) (Or.inl ⟨by simp [Region.wanted], fun W _ => by go_simp⟩) hS ?_
  simp only [List.getElem_toArray, List.getElem_cons_zero, List.getElem_cons_succ, Act.put, List.setIfInBounds_toArray, List.set_cons_zero, List.set_cons_succ]
  refine wpAnyH_take (i := 2) (v := .pointer (some ⟨g, 0, none⟩)) rfl (by kernel_rfl) (by kernel_rfl) (by kernel_rfl) (fun _ _ _ h => h) (Or.inl ⟨by simp [Region.wanted], fun W _ => by go_simp⟩) hS ?_
  simp only [List.getElem_toArray, List.getElem_cons_zero, List.getElem_cons_succ, Act.put, List.setIfInBounds_toArray, List.set_cons_zero, List.set_cons_succ]
  refine wpAnyH_take (i := 3) (v := .pointer (some ⟨g, 1, none⟩)) rfl (by kernel_rfl) (by kernel_rfl) (by kernel_rfl) (fun _ _ _ h => h) (Or.inl ⟨by simp [Region.wanted], fun W _ => by go_simp⟩) hS ?_
  simp only [List.getElem_toArray, List.getElem_cons_zero, List.getElem_cons_succ, Act.put, List.setIfInBounds_toArray, List.set_cons_zero, List.set_cons_succ]
  refine wpAnyH_take (i := 5) (v := .int .u64 hi) rfl (by kernel_rfl) (by kernel_rfl) (by kernel_rfl) (fun _ _ _ h => h) (Or.inl ⟨by simp [Region.wanted], fun W _ => by go_simp⟩) hS ?_
  simp only [List.getElem_toArray, List.getElem_cons_zero, List.getElem_cons_succ, Act.put, List.setIfInBounds_toArray, List.set_cons_zero, List.set_cons_succ]
  refine wpAnyH_take (i := 6) (v := .int .u64 k1) rfl (by kernel_rfl) (by kernel_rfl) (by kernel_rfl) (fun _ _ _ h => h) (Or.inl ⟨by simp [Region.wanted], fun W _ => by go_simp⟩) hS ?_
  simp only [List.getElem_toArray, List.getElem_cons_zero, List.getElem_cons_succ, Act.put, List.setIfInBounds_toArray, List.set_cons_zero, List.set_cons_succ]
  refine wpAnyH_take (i := 11) (v := .pointer (some ⟨g, 0, none⟩)) rfl (by kernel_rfl) (by kernel_rfl) (by kernel_rfl) (fun _ _ _ h => h) (Or.inl ⟨by simp [Region.wanted], fun W _ => by go_simp⟩) hS ?_
  simp only [List.getElem_toArray, List.getElem_cons_zero, List.getElem_cons_succ, Act.put, List.setIfInBounds_toArray, List.set_cons_zero, List.set_cons_succ]
  refine wpAnyH_ready (rs := [4]) (by kernel_rfl) (by simp) ?_
  refine AllReadyH.cons rfl (fun K1 hK1 => ?_) AllReadyH.nil
  refine wanted_go rfl ?_
  simp only [List.getElem_toArray, List.getElem_cons_zero, List.getElem_cons_succ]
  go_wp2
  refine hK1.out _ _ (trivial) (fun hS1 => ?_)
  refine wpAnyH_ready (rs := [7]) (by kernel_rfl) (by simp) ?_
  refine AllReadyH.cons rfl (fun K2 hK2 => ?_) AllReadyH.nil
  refine wanted_go rfl ?_
  simp only [List.getElem_toArray, List.getElem_cons_zero, List.getElem_cons_succ]
  go_wp2_with (simp only [HA2])
  refine hK2.out _ _ (trivial) (fun hS2 => ?_)
  refine wpAnyH_take (i := 8) (v := .tuple #[.int .u64 b1, .int .u64 k2]) rfl (by kernel_rfl) (by kernel_rfl) (by kernel_rfl) (fun _ _ _ h => h) (Or.inl ⟨by simp [Region.wanted], fun W _ => by go_simp⟩) hS2 ?_
  simp only [List.getElem_toArray, List.getElem_cons_zero, List.getElem_cons_succ, Act.put, List.setIfInBounds_toArray, List.set_cons_zero, List.set_cons_succ]
  refine wpAnyH_take (i := 9) (v := .int .u64 b1) rfl (by kernel_rfl) (by kernel_rfl) (by kernel_rfl) (fun _ _ _ h => h) (Or.inl ⟨by simp [Region.wanted], fun W _ => by go_simp⟩) hS2 ?_
  simp only [List.getElem_toArray, List.getElem_cons_zero, List.getElem_cons_succ, Act.put, List.setIfInBounds_toArray, List.set_cons_zero, List.set_cons_succ]
  refine wpAnyH_take (i := 10) (v := .int .u64 k2) rfl (by kernel_rfl) (by kernel_rfl) (by kernel_rfl) (fun _ _ _ h => h) (Or.inl ⟨by simp [Region.wanted], fun W _ => by go_simp⟩) hS2 ?_
  simp only [List.getElem_toArray, List.getElem_cons_zero, List.getElem_cons_succ, Act.put, List.setIfInBounds_toArray, List.set_cons_zero, List.set_cons_succ]
  refine wpAnyH_take (i := 12) (v := .pointer (some ⟨g, 1, none⟩)) rfl (by kernel_rfl) (by kernel_rfl) (by kernel_rfl) (fun _ _ _ h => h) (Or.inl ⟨by simp [Region.wanted], fun W _ => by go_simp⟩) hS2 ?_
  simp only [List.getElem_toArray, List.getElem_cons_zero, List.getElem_cons_succ, Act.put, List.setIfInBounds_toArray, List.set_cons_zero, List.set_cons_succ]
  refine wpAnyH_ready (rs := [13]) (by kernel_rfl) (by simp) ?_
  refine AllReadyH.cons rfl (fun K3 hK3 => ?_) AllReadyH.nil
  refine wanted_go rfl ?_
  simp only [List.getElem_toArray, List.getElem_cons_zero, List.getElem_cons_succ]
  go_wp2
  refine hK3.out _ _ (trivial) (fun hS3 => ?_)
  refine wpAnyH_take (i := 14) (v := .int .u64 k2) rfl (by kernel_rfl) (by kernel_rfl) (by kernel_rfl) (fun _ _ _ h => h) (Or.inl ⟨by simp [Region.wanted], fun W _ => by go_simp⟩) hS3 ?_
  simp only [List.getElem_toArray, List.getElem_cons_zero, List.getElem_cons_succ, Act.put, List.setIfInBounds_toArray, List.set_cons_zero, List.set_cons_succ]
  refine wpAnyH_done (by kernel_rfl) ?_ _
  go_upto_region 3 with (fail)
  refine at_world (Φ := fun W => W.heap[g]? = some (.cells (NumC a1 b1 c) T (0, 0)) ∧ w.grownBy W (some g)) ⟨num_set1 (W := W1) HG1.out b1, grown_drewN' (grown_cellN HW1.out _ _)⟩ ?_
  clear HG1 c0 f0 HA2 HW1
  rintro W2 ⟨hg2, hw2⟩
  have HG2 := Lib.hid hg2; have HW2 := Lib.hid hw2
  clear hg2 hw2
  have c0 := (num_cells HG2.out).2.2; have f0 := free_of_blkN HG2.out 2
  refine wp_region_held_drew (S := fun _ => True) (by kernel_rfl) trivial (fun _ => ?_)
  refine wpAnyH_take (i := 0) (v := .pointer (some ⟨g, 0, none⟩)) rfl (by kernel_rfl) (by kernel_rfl) (by kernel_rfl) (fun _ _ _ h => h) (Or.inl ⟨by simp [Region.wanted], fun W _ => by go_simp⟩) trivial ?_
  simp only [List.getElem_toArray, List.getElem_cons_zero, Act.put, List.setIfInBounds_toArray, List.set_cons_zero, List.set_cons_succ]
  refine wpAnyH_take (i := 1) (v := .pointer (some ⟨g, 0, none⟩)) rfl (by kernel_rfl) (by kernel_rfl) (by kernel_rfl) (fun _ _ _ h => h) (Or.inl ⟨by simp [Region.wanted], fun W _ => by go_simp⟩) trivial ?_
  simp only [List.getElem_toArray, List.getElem_cons_zero, List.getElem_cons_succ, Act.put, List.setIfInBounds_toArray, List.set_cons_zero, List.set_cons_succ]
  refine wpAnyH_take (i := 2) (v := .pointer (some ⟨g, 2, none⟩)) rfl (by kernel_rfl) (by kernel_rfl) (by kernel_rfl) (fun _ _ _ h => h) (Or.inl ⟨by simp [Region.wanted], fun W _ => by go_simp⟩) trivial ?_
  simp only [List.getElem_toArray, List.getElem_cons_zero, List.getElem_cons_succ, Act.put, List.setIfInBounds_toArray, List.set_cons_zero, List.set_cons_succ]
  refine wpAnyH_take (i := 4) (v := .int .u64 hi) rfl (by kernel_rfl) (by kernel_rfl) (by kernel_rfl) (fun _ _ _ h => h) (Or.inl ⟨by simp [Region.wanted], fun W _ => by go_simp⟩) trivial ?_
  simp only [List.getElem_toArray, List.getElem_cons_zero, List.getElem_cons_succ, Act.put, List.setIfInBounds_toArray, List.set_cons_zero, List.set_cons_succ]
  refine wpAnyH_take (i := 6) (v := .int .u64 k2) rfl (by kernel_rfl) (by kernel_rfl) (by kernel_rfl) (fun _ _ _ h => h) (Or.inl ⟨by simp [Region.wanted], fun W _ => by go_simp⟩) trivial ?_
  simp only [List.getElem_toArray, List.getElem_cons_zero, List.getElem_cons_succ, Act.put, List.setIfInBounds_toArray, List.set_cons_zero, List.set_cons_succ]
  refine wpAnyH_take (i := 9) (v := .pointer (some ⟨g, 0, none⟩)) rfl (by kernel_rfl) (by kernel_rfl) (by kernel_rfl) (fun _ _ _ h => h) (Or.inl ⟨by simp [Region.wanted], fun W _ => by go_simp⟩) trivial ?_
  simp only [List.getElem_toArray, List.getElem_cons_zero, List.getElem_cons_succ, Act.put, List.setIfInBounds_toArray, List.set_cons_zero, List.set_cons_succ]
  refine wpAnyH_ready (rs := [3, 5]) (by kernel_rfl) (by simp) ?_
  refine AllReadyH.cons rfl (fun K hK => ?_) (AllReadyH.cons rfl (fun K hK => ?_) AllReadyH.nil)
  · refine wanted_go rfl ?_
    simp only [List.getElem_toArray, List.getElem_cons_zero, List.getElem_cons_succ]
    go_wp2
    refine hK.out _ _ trivial (fun _ => ?_)
    refine wpAnyH_ready (rs := [5]) (by kernel_rfl) (by simp) ?_
    refine AllReadyH.cons rfl (fun K hK => ?_) AllReadyH.nil
    refine wanted_go rfl ?_
    simp only [List.getElem_toArray, List.getElem_cons_zero, List.getElem_cons_succ]
    go_wp2_with (go_at_call 84; refine HS.out _ |>.mono ?_; rintro e w4 ⟨rfl, rfl⟩)
    refine hK.out _ _ trivial (fun _ => ?_)
    refine wpAnyH_take (i := 7) (v := .int .u64 s1) rfl (by kernel_rfl) (by kernel_rfl) (by kernel_rfl) (fun _ _ _ h => h) (Or.inl ⟨by simp [Region.wanted], fun W _ => by go_simp⟩) trivial ?_
    simp only [List.getElem_toArray, List.getElem_cons_zero, List.getElem_cons_succ, Act.put, List.setIfInBounds_toArray, List.set_cons_zero, List.set_cons_succ]
    refine wpAnyH_take (i := 8) (v := .int .u64 c1) rfl (by kernel_rfl) (by kernel_rfl) (by kernel_rfl) (fun _ _ _ h => h) (Or.inl ⟨by simp [Region.wanted], fun W _ => by go_simp⟩) trivial ?_
    simp only [List.getElem_toArray, List.getElem_cons_zero, List.getElem_cons_succ, Act.put, List.setIfInBounds_toArray, List.set_cons_zero, List.set_cons_succ]
    refine wpAnyH_take (i := 10) (v := .pointer (some ⟨g, 2, none⟩)) rfl (by kernel_rfl) (by kernel_rfl) (by kernel_rfl) (fun _ _ _ h => h) (Or.inl ⟨by simp [Region.wanted], fun W _ => by go_simp⟩) trivial ?_
    simp only [List.getElem_toArray, List.getElem_cons_zero, List.getElem_cons_succ, Act.put, List.setIfInBounds_toArray, List.set_cons_zero, List.set_cons_succ]
    refine wpAnyH_ready (rs := [11]) (by kernel_rfl) (by simp) ?_
    refine AllReadyH.cons rfl (fun K hK => ?_) AllReadyH.nil
    refine wanted_go rfl ?_
    simp only [List.getElem_toArray, List.getElem_cons_zero, List.getElem_cons_succ]
    go_wp2
    refine hK.out _ _ trivial (fun _ => ?_)
    refine wpAnyH_done (by kernel_rfl) ?_ _
    go_wp2
    go_end0
    exact ⟨rfl, ⟨a1, b1, c1, HN.out, num_set2 (W := W2) HG2.out c1⟩, grown_drewN' (grown_cellN HW2.out _ _)⟩
  · refine wanted_go rfl ?_
    simp only [List.getElem_toArray, List.getElem_cons_zero, List.getElem_cons_succ]
    go_wp2_with (go_at_call 84; refine HS.out _ |>.mono ?_; rintro e w4 ⟨rfl, rfl⟩)
    refine hK.out _ _ trivial (fun _ => ?_)
    refine wpAnyH_take (i := 7) (v := .int .u64 s1) rfl (by kernel_rfl) (by kernel_rfl) (by kernel_rfl) (fun _ _ _ h => h) (Or.inl ⟨by simp [Region.wanted], fun W _ => by go_simp⟩) trivial ?_
    simp only [List.getElem_toArray, List.getElem_cons_zero, List.getElem_cons_succ, Act.put, List.setIfInBounds_toArray, List.set_cons_zero, List.set_cons_succ]
    refine wpAnyH_ready (rs := [3]) (by kernel_rfl) (by simp) ?_
    refine AllReadyH.cons rfl (fun K hK => ?_) AllReadyH.nil
    refine wanted_go rfl ?_
    simp only [List.getElem_toArray, List.getElem_cons_zero, List.getElem_cons_succ]
    go_wp2
    refine hK.out _ _ trivial (fun _ => ?_)
    refine wpAnyH_take (i := 8) (v := .int .u64 c1) rfl (by kernel_rfl) (by kernel_rfl) (by kernel_rfl) (fun _ _ _ h => h) (Or.inl ⟨by simp [Region.wanted], fun W _ => by go_simp⟩) trivial ?_
    simp only [List.getElem_toArray, List.getElem_cons_zero, List.getElem_cons_succ, Act.put, List.setIfInBounds_toArray, List.set_cons_zero, List.set_cons_succ]
    refine wpAnyH_take (i := 10) (v := .pointer (some ⟨g, 2, none⟩)) rfl (by kernel_rfl) (by kernel_rfl) (by kernel_rfl) (fun _ _ _ h => h) (Or.inl ⟨by simp [Region.wanted], fun W _ => by go_simp⟩) trivial ?_
    simp only [List.getElem_toArray, List.getElem_cons_zero, List.getElem_cons_succ, Act.put, List.setIfInBounds_toArray, List.set_cons_zero, List.set_cons_succ]
    refine wpAnyH_ready (rs := [11]) (by kernel_rfl) (by simp) ?_
    refine AllReadyH.cons rfl (fun K hK => ?_) AllReadyH.nil
    refine wanted_go rfl ?_
    simp only [List.getElem_toArray, List.getElem_cons_zero, List.getElem_cons_succ]
    go_wp2
    refine hK.out _ _ trivial (fun _ => ?_)
    refine wpAnyH_done (by kernel_rfl) ?_ _
    go_wp2
    go_end0
    exact ⟨rfl, ⟨a1, b1, c1, HN.out, num_set2 (W := W2) HG2.out c1⟩, grown_drewN' (grown_cellN HW2.out _ _)⟩
end Go.Proofs.Ytmndkbfjmamnfaa
