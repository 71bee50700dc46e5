/- Sums: the contracts of the program's Sum. -/
import Derived.Test.YtmndkbfjmamnfaaMoneyOps
namespace Go.Proofs.Ytmndkbfjmamnfaa
open Go.RowKit Base

def In64' (a : Int) : Prop := -9223372036854775808 ≤ a ∧ a ≤ 9223372036854775807
theorem prod_bound {a b : Int} (ha : In64' a) (hb : In64' b) : -85070591730234615865843651857942052864 ≤ a * b ∧ a * b ≤ 85070591730234615865843651857942052864 := by
  unfold In64' at ha hb
  have h1 : a.natAbs ≤ 9223372036854775808 := by omega
  have h2 : b.natAbs ≤ 9223372036854775808 := by omega
  have h3 := Nat.mul_le_mul h1 h2
  rw [← Int.natAbs_mul] at h3
  omega
/-- The product's two words are the product. -/
theorem prod_words {a b : Int} (ha : In64' a) (hb : In64' b) : Wd (a * b % 18446744073709551616) ∧ Wd (upW a b) ∧ a * b = a * b % 18446744073709551616 + 18446744073709551616 * upW a b - (if upW a b < 9223372036854775808 then 0 else 340282366920938463463374607431768211456) := by
  have hp := prod_bound ha hb
  unfold upW Wd
  generalize a * b = p at *
  refine ⟨by omega, by omega, ?_⟩
  split <;> omega

set_option maxRecDepth 100000 in
set_option maxHeartbeats 1000000 in
theorem addMul17 (g : Nat) (z a b : Int) (w : World) (h : NumAt w g 54 z) (ha : In64' a) (hb : In64' b) (hr : In192 (z + a * b)) :
    Calls Try.prog 23 #[.pointer (some ⟨g, 0, none⟩), .int .i64 a, .int .i64 b] w fun e w' => e = .returned (.tuple #[]) ∧ NumAt w' g 54 (z + a * b) ∧ w.grownBy w' (some g) := by
  have HP := Lib.hid (product26 a b ha hb)
  obtain ⟨d1, d2, d3⟩ := prod_words ha hb
  have HA := Lib.hid (fun (W : World) (h : NumAt W g 54 z) => add25 g 54 z (a * b % 18446744073709551616) (upW a b) (a * b) W h d1 d2 d3 hr)
  generalize a * b % 18446744073709551616 = lo at *
  generalize upW a b = hi at *
  generalize a * b = x at *
  have HW := Lib.hid (show NumAt w.drew g 54 z from h.below ((Below.refl _ w).drew))
  clear h ha hb hr d1 d2 d3
  go_enter Try.func23, Try.ntmps23
  go_upto_region 1 with (fail)
  refine wp_region_held_drew (S := fun _ => True) (by kernel_rfl) trivial (fun _ => ?_)
  refine wpAnyH_take (i := 0) (v := .pointer (some ⟨g, 0, none⟩)) rfl (by kernel_rfl) (by kernel_rfl) (by kernel_rfl) (fun _ _ _ h => h) (Or.inl ⟨by simp [Region.wanted], fun W _ => by go_simp⟩) trivial ?_
  simp only [List.getElem_toArray, List.getElem_cons_zero, Act.put, List.setIfInBounds_toArray, List.set_cons_zero, List.set_cons_succ]
  refine wpAnyH_take (i := 1) (v := .pointer (some ⟨g, 0, none⟩)) rfl (by kernel_rfl) (by kernel_rfl) (by kernel_rfl) (fun _ _ _ h => h) (Or.inl ⟨by simp [Region.wanted], fun W _ => by go_simp⟩) trivial ?_
  simp only [List.getElem_toArray, List.getElem_cons_zero, List.getElem_cons_succ, Act.put, List.setIfInBounds_toArray, List.set_cons_zero, List.set_cons_succ]
  refine wpAnyH_take (i := 2) (v := .pointer (some ⟨g, 0, none⟩)) rfl (by kernel_rfl) (by kernel_rfl) (by kernel_rfl) (fun _ _ _ h => h) (Or.inl ⟨by simp [Region.wanted], fun W _ => by go_simp⟩) trivial ?_
  simp only [List.getElem_toArray, List.getElem_cons_zero, List.getElem_cons_succ, Act.put, List.setIfInBounds_toArray, List.set_cons_zero, List.set_cons_succ]
  refine wpAnyH_take (i := 3) (v := .int .i64 a) rfl (by kernel_rfl) (by kernel_rfl) (by kernel_rfl) (fun _ _ _ h => h) (Or.inl ⟨by simp [Region.wanted], fun W _ => by go_simp⟩) trivial ?_
  simp only [List.getElem_toArray, List.getElem_cons_zero, List.getElem_cons_succ, Act.put, List.setIfInBounds_toArray, List.set_cons_zero, List.set_cons_succ]
  refine wpAnyH_take (i := 4) (v := .int .i64 b) rfl (by kernel_rfl) (by kernel_rfl) (by kernel_rfl) (fun _ _ _ h => h) (Or.inl ⟨by simp [Region.wanted], fun W _ => by go_simp⟩) trivial ?_
  simp only [List.getElem_toArray, List.getElem_cons_zero, List.getElem_cons_succ, Act.put, List.setIfInBounds_toArray, List.set_cons_zero, List.set_cons_succ]
  refine wpAnyH_ready (rs := [5]) (by kernel_rfl) (by simp) ?_
  refine AllReadyH.cons rfl (fun K hK => ?_) AllReadyH.nil
  refine wanted_go rfl ?_
  simp only [List.getElem_toArray, List.getElem_cons_zero, List.getElem_cons_succ]
  go_wp2_with (go_at_call 48; refine HP.out _ |>.mono ?_; rintro e w1 ⟨rfl, rfl⟩)
  refine hK.out _ _ trivial (fun _ => ?_)
  refine wpAnyH_take (i := 6) (v := .int .u64 lo) rfl (by kernel_rfl) (by kernel_rfl) (by kernel_rfl) (fun _ _ _ h => h) (Or.inl ⟨by simp [Region.wanted], fun W _ => by go_simp⟩) trivial ?_
  simp only [List.getElem_toArray, List.getElem_cons_zero, List.getElem_cons_succ, Act.put, List.setIfInBounds_toArray, List.set_cons_zero, List.set_cons_succ]
  refine wpAnyH_take (i := 7) (v := .int .u64 hi) rfl (by kernel_rfl) (by kernel_rfl) (by kernel_rfl) (fun _ _ _ h => h) (Or.inl ⟨by simp [Region.wanted], fun W _ => by go_simp⟩) trivial ?_
  simp only [List.getElem_toArray, List.getElem_cons_zero, List.getElem_cons_succ, Act.put, List.setIfInBounds_toArray, List.set_cons_zero, List.set_cons_succ]
  refine wpAnyH_ready (rs := [8]) (by kernel_rfl) (by simp) ?_
  refine AllReadyH.cons rfl (fun K hK => ?_) AllReadyH.nil
  refine wanted_go rfl ?_
  simp only [List.getElem_toArray, List.getElem_cons_zero, List.getElem_cons_succ]
  go_wp2_with (go_at_call 47; refine (HA.out _ HW.out).mono ?_; rintro e w2 ⟨rfl, hn2, hg2⟩; have HN2 := Lib.hid hn2; have HG2 := Lib.hid hg2; clear hn2 hg2)
  refine hK.out _ _ trivial (fun _ => ?_)
  refine wpAnyH_done (by kernel_rfl) ?_ _
  go_wp2
  go_end0
  exact ⟨rfl, HN2.out, ⟨HG2.out.os, HG2.out.tape, HG2.out.output, HG2.out.size, HG2.out.block⟩⟩

theorem add16 (g : Nat) (z a : Int) (w : World) (h : NumAt w g 54 z) (ha : In64' a) (hr : In192 (z + a)) :
    Calls Try.prog 21 #[.pointer (some ⟨g, 0, none⟩), .int .i64 a] w fun e w' => e = .returned (.tuple #[]) ∧ NumAt w' g 54 (z + a) ∧ w.grownBy w' (some g) := by
  have H := Lib.hid (addMul17 g z a 1 w h ha (by unfold In64'; omega) (by rw [Int.mul_one]; exact hr))
  rw [Int.mul_one] at H
  clear h ha hr
  go_enter Try.func21, Try.ntmps21
  go_wp2_with (go_at_call 23; refine H.out.mono ?_; rintro e w1 ⟨rfl, hn1, hg1⟩; have HN1 := Lib.hid hn1; have HG1 := Lib.hid hg1; clear hn1 hg1)
  go_end0
  exact ⟨rfl, HN1.out, HG1.out⟩
theorem below_grownB {B k : Nat} {w W W' : World} (h : Below B w W) (g : W.grownBy W' (some k)) (hB : B ≤ w.heap.size) (hk : B ≤ k := by omega) : Below B w W' :=
  ⟨g.os.trans h.os, g.tape.trans h.tape, g.output.trans h.output, Nat.le_trans h.size g.size, fun i hi => (g.block i (by have := h.size; omega) (by simp; omega)).trans (h.block i hi)⟩
theorem addMul17n (a b : Int) (w : World) : Calls Try.prog 23 #[.pointer none, .int .i64 a, .int .i64 b] w fun e w' => e = .returned (.tuple #[]) ∧ w = w' := by
  go_enter Try.func23, Try.ntmps23
  go_wp2
  go_end0
  exact ⟨rfl, rfl⟩
theorem add16n (a : Int) (w : World) : Calls Try.prog 21 #[.pointer none, .int .i64 a] w fun e w' => e = .returned (.tuple #[]) ∧ w = w' := by
  have H := Lib.hid (addMul17n a 1)
  go_enter Try.func21, Try.ntmps21
  go_wp2_with (go_at_call 23; refine H.out _ |>.mono ?_; rintro e w1 ⟨rfl, rfl⟩)
  go_end0
  exact ⟨rfl, rfl⟩
theorem total18 (g : Nat) (z : Int) (w : World) (h : NumAt w g 54 z) : Calls Try.prog 25 #[.pointer (some ⟨g, 0, none⟩)] w fun e w' => e = .returned (.tuple #[.int .i64 (fitV z), .bool (fitB z)]) ∧ w = w' := by
  have H := Lib.hid (short27 g 54 z w h)
  generalize fitV z = fv at *
  generalize fitB z = fb at *
  clear h
  go_enter Try.func25, Try.ntmps25
  go_wp2_with (go_at_call 51; refine H.out.mono ?_; rintro e w1 ⟨rfl, rfl⟩)
  go_ret2
  exact ⟨rfl, rfl⟩
theorem total18n (w : World) : Calls Try.prog 25 #[.pointer none] w fun e w' => e = .returned (.tuple #[.int .i64 0, .bool false]) ∧ w = w' := by
  go_enter Try.func25, Try.ntmps25
  go_wp2
  go_ret2
  exact ⟨rfl, rfl⟩
theorem share19n (r : Int) (w : World) : Calls Try.prog 28 #[.pointer none, .int .i64 r] w fun e w' => e = .returned (.tuple #[.int .i64 0, .bool false]) ∧ w = w' := by
  go_enter Try.func28, Try.ntmps28
  go_wp2
  go_ret2
  exact ⟨rfl, rfl⟩
/-- May a share be asked for? -/
def mayB (z r : Int) : Bool := decide (0 ≤ z ∧ 0 ≤ r ∧ r ≤ 1000)
/-- A share. -/
def shr (z r : Int) : Int := (z * r + 99) / 100
theorem share19 (g : Nat) (z r : Int) (w : World) (h : NumAt w g 54 z) (_hr : In64' r) (hm : 0 ≤ z → 0 ≤ r → r ≤ 1000 → In192 (z * r + 99)) :
    Calls Try.prog 28 #[.pointer (some ⟨g, 0, none⟩), .int .i64 r] w fun e w' => e = .returned (.tuple #[.int .i64 (if mayB z r then fitV (shr z r) else 0), .bool (mayB z r && fitB (shr z r))]) ∧ Below w.heap.size w w' := by
  have HB := Lib.hid (below28 g 54 z w h)
  by_cases h1 : z < 0
  · have hf : mayB z r = false := decide_eq_false (by omega)
    rw [hf, decide_eq_true h1] at *
    clear h hm hf _hr h1
    go_enter Try.func28, Try.ntmps28
    go_wp2_with (go_at_call 54; refine HB.out.mono ?_; rintro e w1 ⟨rfl, rfl⟩)
    go_ret2
    exact ⟨rfl, Below.refl _ _⟩
  rw [decide_eq_false h1] at HB
  by_cases h2 : r < 0
  · have hf : mayB z r = false := decide_eq_false (by omega)
    rw [hf]
    clear h hm hf _hr h1
    go_enter Try.func28, Try.ntmps28
    go_wp2_with (go_at_call 54; refine HB.out.mono ?_; rintro e w1 ⟨rfl, rfl⟩)
    go_ret2
    exact ⟨rfl, Below.refl _ _⟩
  by_cases h3 : r > 1000
  · have hf : mayB z r = false := decide_eq_false (by omega)
    rw [hf]
    clear h hm hf _hr h1
    go_enter Try.func28, Try.ntmps28
    go_wp2_with (go_at_call 54; refine HB.out.mono ?_; rintro e w1 ⟨rfl, rfl⟩)
    go_ret2
    exact ⟨rfl, Below.refl _ _⟩
  have hf : mayB z r = true := decide_eq_true (by omega)
  have hin := hm (by omega) (by omega) (by omega)
  rw [hf, if_pos rfl, Bool.true_and]
  obtain ⟨a, b, c, hn, hg⟩ := h
  obtain ⟨c0, c1, c2⟩ := num_cells hg
  have hzr : 0 ≤ z * r := Int.mul_nonneg (by omega) (by omega)
  obtain ⟨k, hk⟩ : ∃ k, k = w.heap.size := ⟨_, rfl⟩
  have HMU := Lib.hid (fun (W : World) (h : NumAt W k 52 z) => multiply29 k 52 z r W h (by omega) (by unfold Wd; omega) (by unfold In192 at *; omega))
  have HAD := Lib.hid (fun (W : World) (h : NumAt W k 52 (z * r)) => add25 k 52 (z * r) 99 0 99 W h (by unfold Wd; omega) (by unfold Wd; omega) (by simp) hin)
  have HDV := Lib.hid (fun (W : World) (h : NumAt W k 52 (z * r + 99)) => divide30 k 52 (z * r + 99) W h (by omega))
  have HSH := Lib.hid (fun (W : World) (h : NumAt W k 52 (shr z r)) => short27 k 52 (shr z r) W h)
  have HD0 := Lib.hid (show shr z r = (z * r + 99) / 100 from rfl)
  rw [← HD0.out] at HDV
  have HA := Lib.hid (show NumAt (w.alloc (.cells (NumC a b c) 52)) k 52 z from ⟨a, b, c, hn, by rw [hk]; exact heap_alloc_new w _⟩)
  have HK := Lib.hid hk
  have ur : IntKind.u64.wrap r = r := wrap_same r (by unfold Wd; omega)
  generalize fitV (shr z r) = fv at *
  generalize fitB (shr z r) = fb at *
  generalize shr z r = s at *
  generalize z * r = q at *
  clear hn hin hm hf _hr h1 hzr hk HD0
  go_enter Try.func28, Try.ntmps28
  go_upto_region 3 with (go_at_call 54; refine HB.out.mono ?_; rintro e w1 ⟨rfl, rfl⟩)
  go_upto_region 4 with (fail)
  rw [← HK.out]
  refine at_world (Φ := fun W => NumAt W k 52 z ∧ Below k w W) ⟨HA.out, (Below.refl k w).alloc (by rw [HK.out]; exact Nat.le_refl _) _⟩ ?_
  rintro W1 ⟨hn1, hb1⟩
  have HN1 := Lib.hid hn1; have HB1 := Lib.hid hb1
  clear hg c0 c1 c2 hn1 hb1 HB HA
  go_upto_region 5 with (go_at_call 55; refine (HMU.out _ HN1.out).mono ?_; rintro e W2 ⟨rfl, hn2, hg2⟩; have HN2 := Lib.hid hn2; have HB2 := Lib.hid (below_grownB HB1.out hg2 (by rw [HK.out]; exact Nat.le_refl _)); clear hn2 hg2)
  go_upto_region 6 with (go_at_call 47; refine (HAD.out _ HN2.out).mono ?_; rintro e W3 ⟨rfl, hn3, hg3⟩; have HN3 := Lib.hid hn3; have HB3 := Lib.hid (below_grownB HB2.out hg3 (by rw [HK.out]; exact Nat.le_refl _)); clear hn3 hg3)
  go_upto_region 7 with (go_at_call 56; refine (HDV.out _ HN3.out).mono ?_; rintro e W4 ⟨rfl, hn4, hg4⟩; have HN4 := Lib.hid hn4; have HB4 := Lib.hid (below_grownB HB3.out hg4 (by rw [HK.out]; exact Nat.le_refl _)); clear hn4 hg4)
  go_wp2_with (go_at_call 51; refine (HSH.out _ HN4.out).mono ?_; rintro e W5 ⟨rfl, rfl⟩)
  go_ret2
  exact ⟨rfl, by rw [← HK.out]; exact HB4.out⟩

/-- A new sum. -/
theorem num_new (w : World) : NumAt (w.alloc (.cells #[.int .u64 0, .int .u64 0, .int .u64 0] 54)) w.heap.size 54 0 := ⟨0, 0, 0, ⟨by unfold Wd; omega, by unfold Wd; omega, by unfold Wd; omega, .inl ⟨by omega, by omega⟩⟩, heap_alloc_new w _⟩

theorem in64_sum {a b : Int} (ha : In64' a) (hb : In64' b) : In192 (0 + a + b) := by unfold In64' at *; unfold In192; omega
end Go.Proofs.Ytmndkbfjmamnfaa
