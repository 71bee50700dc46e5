/- Contracts of the document's Put, PutVerdict and PutPair: the numbers' bytes. -/
import Derived.Test.YtnakmlnjfjgghaaDoorEvMath
import Derived.Test.YtnakmlnjfjgghaaDoorBase
import Derived.StillTailTactics
import Derived.Deep.RegionHeld3
namespace Go.Proofs.YtnakmlnjfjgghaaDoor
open Go.RowKit Base

/-- A block that was laid at the end of w, and nothing before it has turned. -/
def RowS (w : World) (cs : Array Value) (T : TypeId) (W : World) : Prop := W.heap[w.heap.size]? = some (.cells cs T (0, 0)) ∧ Below w.heap.size w W
theorem RowS.new (w : World) (cs : Array Value) (T : TypeId) : RowS w cs T (w.alloc (.cells cs T)).drew := ⟨heap_alloc_new w _, ((Below.refl _ w).alloc (Nat.le_refl _) _).drew⟩
theorem RowS.below {w W W' : World} {cs : Array Value} {T : TypeId} (h : RowS w cs T W) (hb : Below W.heap.size W W') : RowS w cs T W' := by
  have hl : w.heap.size < W.heap.size := lt_of_blk h.1
  exact ⟨(hb.block _ hl).trans h.1, h.2.trans (hb.mono (by omega))⟩
theorem RowS.cell {w W : World} {cs : Array Value} {T : TypeId} (h : RowS w cs T W) (i : Nat) (v : Value) (hi : cs[i]? = some v) : W.cell? ⟨w.heap.size, i, none⟩ = some v := by
  rw [cell_of_row W _ i cs T (0, 0) h.1]; exact hi
theorem RowS.range {w W : World} {cs : Array Value} {T : TypeId} (h : RowS w cs T W) (k n : Nat) : W.rangeAt w.heap.size k ((cs.toList.drop k).take n) := by
  intro j u hj
  have e : cs[k + j]? = some u := by
    rw [List.getElem?_take] at hj
    split at hj
    · rw [List.getElem?_drop] at hj
      simpa using hj
    · simp at hj
  exact h.cell (k + j) u e

theorem append_empty (R : ByteArray) : R ++ (⟨#[]⟩ : ByteArray) = R := by apply ByteArray.ext; rw [ByteArray.data_append]; simp

set_option maxRecDepth 100000 in
set_option maxHeartbeats 2000000 in
theorem rput13 (a0 a1 a2 a3 a4 a5 a6 : Int) (w : World) (hin : In64L [a0, a1, a2, a3, a4, a5, a6]) :
    Calls Tryd.prog 13 #[.agg #[.int .i64 a0, .int .i64 a1, .int .i64 a2, .int .i64 a3, .int .i64 a4, .int .i64 a5, .int .i64 a6]] w fun e w' => e = .returned (.string (encS [a0, a1, a2, a3, a4, a5, a6])) ∧ Below w.heap.size w w' := by
  have HE := Lib.hid (show encS [a0, a1, a2, a3, a4, a5, a6] = ((((((M.encB (M.zig a0).toNat ++ M.encB (M.zig a1).toNat) ++ M.encB (M.zig a2).toNat) ++ M.encB (M.zig a3).toNat) ++ M.encB (M.zig a4).toNat) ++ M.encB (M.zig a5).toNat) ++ M.encB (M.zig a6).toNat) by
    rw [encS_cons, encS_cons, encS_cons, encS_cons, encS_cons, encS_cons, encS_cons]
    simp only [encS_nil, append_empty, ByteArray.append_assoc])
  have HI0 := Lib.hid (fun (W : World) => int11 a0 W (hin a0 (by simp)).1 (hin a0 (by simp)).2)
  have HI1 := Lib.hid (fun (W : World) => int11 a1 W (hin a1 (by simp)).1 (hin a1 (by simp)).2)
  have HI2 := Lib.hid (fun (W : World) => int11 a2 W (hin a2 (by simp)).1 (hin a2 (by simp)).2)
  have HI3 := Lib.hid (fun (W : World) => int11 a3 W (hin a3 (by simp)).1 (hin a3 (by simp)).2)
  have HI4 := Lib.hid (fun (W : World) => int11 a4 W (hin a4 (by simp)).1 (hin a4 (by simp)).2)
  have HI5 := Lib.hid (fun (W : World) => int11 a5 W (hin a5 (by simp)).1 (hin a5 (by simp)).2)
  have HI6 := Lib.hid (fun (W : World) => int11 a6 W (hin a6 (by simp)).1 (hin a6 (by simp)).2)
  have z0 := encB_size (M.zig a0).toNat
  have z1 := encB_size (M.zig a1).toNat
  have z2 := encB_size (M.zig a2).toNat
  have z3 := encB_size (M.zig a3).toNat
  have z4 := encB_size (M.zig a4).toNat
  have z5 := encB_size (M.zig a5).toNat
  have z6 := encB_size (M.zig a6).toNat
  obtain ⟨x0, hx0⟩ : ∃ x, M.encB (M.zig a0).toNat = x := ⟨_, rfl⟩
  obtain ⟨x1, hx1⟩ : ∃ x, M.encB (M.zig a1).toNat = x := ⟨_, rfl⟩
  obtain ⟨x2, hx2⟩ : ∃ x, M.encB (M.zig a2).toNat = x := ⟨_, rfl⟩
  obtain ⟨x3, hx3⟩ : ∃ x, M.encB (M.zig a3).toNat = x := ⟨_, rfl⟩
  obtain ⟨x4, hx4⟩ : ∃ x, M.encB (M.zig a4).toNat = x := ⟨_, rfl⟩
  obtain ⟨x5, hx5⟩ : ∃ x, M.encB (M.zig a5).toNat = x := ⟨_, rfl⟩
  obtain ⟨x6, hx6⟩ : ∃ x, M.encB (M.zig a6).toNat = x := ⟨_, rfl⟩
  simp only [hx0, hx1, hx2, hx3, hx4, hx5, hx6] at HE HI0 HI1 HI2 HI3 HI4 HI5 HI6 z0 z1 z2 z3 z4 z5 z6
  rw [HE.out]
  have HR := Lib.hid (RowS.new w #[.int .i64 a0, .int .i64 a1, .int .i64 a2, .int .i64 a3, .int .i64 a4, .int .i64 a5, .int .i64 a6] 23)
  clear hin hx0 hx1 hx2 hx3 hx4 hx5 hx6
  go_enter Tryd.func13, Tryd.ntmps13
  go_wp2
  refine wp_region_held_drew (S := fun W => RowS w #[.int .i64 a0, .int .i64 a1, .int .i64 a2, .int .i64 a3, .int .i64 a4, .int .i64 a5, .int .i64 a6] 23 W) (by kernel_rfl) (HR.out) (fun hS => ?_)
  refine wpAnyH_take (i := 0) (v := .pointer (some ⟨w.heap.size, 0, none⟩)) rfl (by kernel_rfl) (by kernel_rfl) (by kernel_rfl) (fun _ _ _ h => h) (Or.inl ⟨by simp [Region.wanted], fun W _ => by go_simp⟩) hS ?_
  simp only [List.getElem_toArray, List.getElem_cons_zero, Act.put, List.setIfInBounds_toArray, List.set_cons_zero, List.set_cons_succ]
  refine wpAnyH_take (i := 1) (v := .int .i64 a0) rfl (by kernel_rfl) (by kernel_rfl) (by kernel_rfl) (fun _ _ _ h => h) (Or.inl ⟨by simp [Region.wanted], fun W hW => by have c := hW.cell 0 (.int .i64 a0) rfl; go_simp⟩) hS ?_
  simp only [List.getElem_toArray, List.getElem_cons_zero, List.getElem_cons_succ, Act.put, List.setIfInBounds_toArray, List.set_cons_zero, List.set_cons_succ]
  refine wpAnyH_take (i := 3) (v := .pointer (some ⟨w.heap.size, 1, none⟩)) rfl (by kernel_rfl) (by kernel_rfl) (by kernel_rfl) (fun _ _ _ h => h) (Or.inl ⟨by simp [Region.wanted], fun W _ => by go_simp⟩) hS ?_
  simp only [List.getElem_toArray, List.getElem_cons_zero, List.getElem_cons_succ, Act.put, List.setIfInBounds_toArray, List.set_cons_zero, List.set_cons_succ]
  refine wpAnyH_take (i := 4) (v := .int .i64 a1) rfl (by kernel_rfl) (by kernel_rfl) (by kernel_rfl) (fun _ _ _ h => h) (Or.inl ⟨by simp [Region.wanted], fun W hW => by have c := hW.cell 1 (.int .i64 a1) rfl; go_simp⟩) hS ?_
  simp only [List.getElem_toArray, List.getElem_cons_zero, List.getElem_cons_succ, Act.put, List.setIfInBounds_toArray, List.set_cons_zero, List.set_cons_succ]
  refine wpAnyH_take (i := 7) (v := .pointer (some ⟨w.heap.size, 2, none⟩)) rfl (by kernel_rfl) (by kernel_rfl) (by kernel_rfl) (fun _ _ _ h => h) (Or.inl ⟨by simp [Region.wanted], fun W _ => by go_simp⟩) hS ?_
  simp only [List.getElem_toArray, List.getElem_cons_zero, List.getElem_cons_succ, Act.put, List.setIfInBounds_toArray, List.set_cons_zero, List.set_cons_succ]
  refine wpAnyH_take (i := 8) (v := .int .i64 a2) rfl (by kernel_rfl) (by kernel_rfl) (by kernel_rfl) (fun _ _ _ h => h) (Or.inl ⟨by simp [Region.wanted], fun W hW => by have c := hW.cell 2 (.int .i64 a2) rfl; go_simp⟩) hS ?_
  simp only [List.getElem_toArray, List.getElem_cons_zero, List.getElem_cons_succ, Act.put, List.setIfInBounds_toArray, List.set_cons_zero, List.set_cons_succ]
  refine wpAnyH_take (i := 11) (v := .pointer (some ⟨w.heap.size, 3, none⟩)) rfl (by kernel_rfl) (by kernel_rfl) (by kernel_rfl) (fun _ _ _ h => h) (Or.inl ⟨by simp [Region.wanted], fun W _ => by go_simp⟩) hS ?_
  simp only [List.getElem_toArray, List.getElem_cons_zero, List.getElem_cons_succ, Act.put, List.setIfInBounds_toArray, List.set_cons_zero, List.set_cons_succ]
  refine wpAnyH_take (i := 12) (v := .int .i64 a3) rfl (by kernel_rfl) (by kernel_rfl) (by kernel_rfl) (fun _ _ _ h => h) (Or.inl ⟨by simp [Region.wanted], fun W hW => by have c := hW.cell 3 (.int .i64 a3) rfl; go_simp⟩) hS ?_
  simp only [List.getElem_toArray, List.getElem_cons_zero, List.getElem_cons_succ, Act.put, List.setIfInBounds_toArray, List.set_cons_zero, List.set_cons_succ]
  refine wpAnyH_take (i := 15) (v := .pointer (some ⟨w.heap.size, 4, none⟩)) rfl (by kernel_rfl) (by kernel_rfl) (by kernel_rfl) (fun _ _ _ h => h) (Or.inl ⟨by simp [Region.wanted], fun W _ => by go_simp⟩) hS ?_
  simp only [List.getElem_toArray, List.getElem_cons_zero, List.getElem_cons_succ, Act.put, List.setIfInBounds_toArray, List.set_cons_zero, List.set_cons_succ]
  refine wpAnyH_take (i := 16) (v := .int .i64 a4) rfl (by kernel_rfl) (by kernel_rfl) (by kernel_rfl) (fun _ _ _ h => h) (Or.inl ⟨by simp [Region.wanted], fun W hW => by have c := hW.cell 4 (.int .i64 a4) rfl; go_simp⟩) hS ?_
  simp only [List.getElem_toArray, List.getElem_cons_zero, List.getElem_cons_succ, Act.put, List.setIfInBounds_toArray, List.set_cons_zero, List.set_cons_succ]
  refine wpAnyH_take (i := 19) (v := .pointer (some ⟨w.heap.size, 5, none⟩)) rfl (by kernel_rfl) (by kernel_rfl) (by kernel_rfl) (fun _ _ _ h => h) (Or.inl ⟨by simp [Region.wanted], fun W _ => by go_simp⟩) hS ?_
  simp only [List.getElem_toArray, List.getElem_cons_zero, List.getElem_cons_succ, Act.put, List.setIfInBounds_toArray, List.set_cons_zero, List.set_cons_succ]
  refine wpAnyH_take (i := 20) (v := .int .i64 a5) rfl (by kernel_rfl) (by kernel_rfl) (by kernel_rfl) (fun _ _ _ h => h) (Or.inl ⟨by simp [Region.wanted], fun W hW => by have c := hW.cell 5 (.int .i64 a5) rfl; go_simp⟩) hS ?_
  simp only [List.getElem_toArray, List.getElem_cons_zero, List.getElem_cons_succ, Act.put, List.setIfInBounds_toArray, List.set_cons_zero, List.set_cons_succ]
  refine wpAnyH_take (i := 23) (v := .pointer (some ⟨w.heap.size, 6, none⟩)) rfl (by kernel_rfl) (by kernel_rfl) (by kernel_rfl) (fun _ _ _ h => h) (Or.inl ⟨by simp [Region.wanted], fun W _ => by go_simp⟩) hS ?_
  simp only [List.getElem_toArray, List.getElem_cons_zero, List.getElem_cons_succ, Act.put, List.setIfInBounds_toArray, List.set_cons_zero, List.set_cons_succ]
  refine wpAnyH_take (i := 24) (v := .int .i64 a6) rfl (by kernel_rfl) (by kernel_rfl) (by kernel_rfl) (fun _ _ _ h => h) (Or.inl ⟨by simp [Region.wanted], fun W hW => by have c := hW.cell 6 (.int .i64 a6) rfl; go_simp⟩) hS ?_
  simp only [List.getElem_toArray, List.getElem_cons_zero, List.getElem_cons_succ, Act.put, List.setIfInBounds_toArray, List.set_cons_zero, List.set_cons_succ]
  refine wpAnyH_ready (rs := [2]) (by kernel_rfl) (by simp) ?_
  refine AllReadyH.cons rfl (fun K1 hK1 => ?_) AllReadyH.nil
  refine wanted_go rfl ?_
  simp only [List.getElem_toArray, List.getElem_cons_zero, List.getElem_cons_succ]
  go_wp2_with (go_at_call 30; refine (HI0.out _).mono ?_; rintro e W1 ⟨rfl, hb⟩; have HB1 := Lib.hid hb; clear hb)
  refine hK1.out _ _ (hS.below HB1.out) (fun hS1 => ?_)
  refine wpAnyH_ready (rs := [5]) (by kernel_rfl) (by simp) ?_
  refine AllReadyH.cons rfl (fun K2 hK2 => ?_) AllReadyH.nil
  refine wanted_go rfl ?_
  simp only [List.getElem_toArray, List.getElem_cons_zero, List.getElem_cons_succ]
  go_wp2_with (go_at_call 30; refine (HI1.out _).mono ?_; rintro e W2 ⟨rfl, hb⟩; have HB2 := Lib.hid hb; clear hb)
  refine hK2.out _ _ (hS1.below HB2.out) (fun hS2 => ?_)
  refine wpAnyH_take (i := 6) (v := .string (x0 ++ x1)) rfl (by kernel_rfl) (by kernel_rfl) (by kernel_rfl) (fun _ _ _ h => h) (Or.inl ⟨by simp [Region.wanted], fun W _ => by go_simp; omega⟩) hS2 ?_
  simp only [List.getElem_toArray, List.getElem_cons_zero, List.getElem_cons_succ, Act.put, List.setIfInBounds_toArray, List.set_cons_zero, List.set_cons_succ]
  refine wpAnyH_ready (rs := [9]) (by kernel_rfl) (by simp) ?_
  refine AllReadyH.cons rfl (fun K3 hK3 => ?_) AllReadyH.nil
  refine wanted_go rfl ?_
  simp only [List.getElem_toArray, List.getElem_cons_zero, List.getElem_cons_succ]
  go_wp2_with (go_at_call 30; refine (HI2.out _).mono ?_; rintro e W3 ⟨rfl, hb⟩; have HB3 := Lib.hid hb; clear hb)
  refine hK3.out _ _ (hS2.below HB3.out) (fun hS3 => ?_)
  refine wpAnyH_take (i := 10) (v := .string ((x0 ++ x1) ++ x2)) rfl (by kernel_rfl) (by kernel_rfl) (by kernel_rfl) (fun _ _ _ h => h) (Or.inl ⟨by simp [Region.wanted], fun W _ => by go_simp; omega⟩) hS3 ?_
  simp only [List.getElem_toArray, List.getElem_cons_zero, List.getElem_cons_succ, Act.put, List.setIfInBounds_toArray, List.set_cons_zero, List.set_cons_succ]
  refine wpAnyH_ready (rs := [13]) (by kernel_rfl) (by simp) ?_
  refine AllReadyH.cons rfl (fun K4 hK4 => ?_) AllReadyH.nil
  refine wanted_go rfl ?_
  simp only [List.getElem_toArray, List.getElem_cons_zero, List.getElem_cons_succ]
  go_wp2_with (go_at_call 30; refine (HI3.out _).mono ?_; rintro e W4 ⟨rfl, hb⟩; have HB4 := Lib.hid hb; clear hb)
  refine hK4.out _ _ (hS3.below HB4.out) (fun hS4 => ?_)
  refine wpAnyH_take (i := 14) (v := .string (((x0 ++ x1) ++ x2) ++ x3)) rfl (by kernel_rfl) (by kernel_rfl) (by kernel_rfl) (fun _ _ _ h => h) (Or.inl ⟨by simp [Region.wanted], fun W _ => by go_simp; omega⟩) hS4 ?_
  simp only [List.getElem_toArray, List.getElem_cons_zero, List.getElem_cons_succ, Act.put, List.setIfInBounds_toArray, List.set_cons_zero, List.set_cons_succ]
  refine wpAnyH_ready (rs := [17]) (by kernel_rfl) (by simp) ?_
  refine AllReadyH.cons rfl (fun K5 hK5 => ?_) AllReadyH.nil
  refine wanted_go rfl ?_
  simp only [List.getElem_toArray, List.getElem_cons_zero, List.getElem_cons_succ]
  go_wp2_with (go_at_call 30; refine (HI4.out _).mono ?_; rintro e W5 ⟨rfl, hb⟩; have HB5 := Lib.hid hb; clear hb)
  refine hK5.out _ _ (hS4.below HB5.out) (fun hS5 => ?_)
  refine wpAnyH_take (i := 18) (v := .string ((((x0 ++ x1) ++ x2) ++ x3) ++ x4)) rfl (by kernel_rfl) (by kernel_rfl) (by kernel_rfl) (fun _ _ _ h => h) (Or.inl ⟨by simp [Region.wanted], fun W _ => by go_simp; omega⟩) hS5 ?_
  simp only [List.getElem_toArray, List.getElem_cons_zero, List.getElem_cons_succ, Act.put, List.setIfInBounds_toArray, List.set_cons_zero, List.set_cons_succ]
  refine wpAnyH_ready (rs := [21]) (by kernel_rfl) (by simp) ?_
  refine AllReadyH.cons rfl (fun K6 hK6 => ?_) AllReadyH.nil
  refine wanted_go rfl ?_
  simp only [List.getElem_toArray, List.getElem_cons_zero, List.getElem_cons_succ]
  go_wp2_with (go_at_call 30; refine (HI5.out _).mono ?_; rintro e W6 ⟨rfl, hb⟩; have HB6 := Lib.hid hb; clear hb)
  refine hK6.out _ _ (hS5.below HB6.out) (fun hS6 => ?_)
  refine wpAnyH_take (i := 22) (v := .string (((((x0 ++ x1) ++ x2) ++ x3) ++ x4) ++ x5)) rfl (by kernel_rfl) (by kernel_rfl) (by kernel_rfl) (fun _ _ _ h => h) (Or.inl ⟨by simp [Region.wanted], fun W _ => by go_simp; omega⟩) hS6 ?_
  simp only [List.getElem_toArray, List.getElem_cons_zero, List.getElem_cons_succ, Act.put, List.setIfInBounds_toArray, List.set_cons_zero, List.set_cons_succ]
  refine wpAnyH_ready (rs := [25]) (by kernel_rfl) (by simp) ?_
  refine AllReadyH.cons rfl (fun K7 hK7 => ?_) AllReadyH.nil
  refine wanted_go rfl ?_
  simp only [List.getElem_toArray, List.getElem_cons_zero, List.getElem_cons_succ]
  go_wp2_with (go_at_call 30; refine (HI6.out _).mono ?_; rintro e W7 ⟨rfl, hb⟩; have HB7 := Lib.hid hb; clear hb)
  refine hK7.out _ _ (hS6.below HB7.out) (fun hS7 => ?_)
  refine wpAnyH_take (i := 26) (v := .string ((((((x0 ++ x1) ++ x2) ++ x3) ++ x4) ++ x5) ++ x6)) rfl (by kernel_rfl) (by kernel_rfl) (by kernel_rfl) (fun _ _ _ h => h) (Or.inl ⟨by simp [Region.wanted], fun W _ => by go_simp; omega⟩) hS7 ?_
  simp only [List.getElem_toArray, List.getElem_cons_zero, List.getElem_cons_succ, Act.put, List.setIfInBounds_toArray, List.set_cons_zero, List.set_cons_succ]
  refine wpAnyH_take (i := 27) (v := .string ((((((x0 ++ x1) ++ x2) ++ x3) ++ x4) ++ x5) ++ x6)) rfl (by kernel_rfl) (by kernel_rfl) (by kernel_rfl) (fun _ _ _ h => h) (Or.inl ⟨by simp [Region.wanted], fun W _ => by go_simp⟩) hS7 ?_
  simp only [List.getElem_toArray, List.getElem_cons_zero, List.getElem_cons_succ, Act.put, List.setIfInBounds_toArray, List.set_cons_zero, List.set_cons_succ]
  refine wpAnyH_done (by kernel_rfl) ?_ _
  go_wp2
  go_ret
  exact ⟨rfl, hS7.2⟩

set_option maxRecDepth 100000 in
set_option maxHeartbeats 2000000 in
theorem rput14 (a0 a1 : Int) (w : World) (hin : In64L [a0, a1]) :
    Calls Tryd.prog 14 #[.agg #[.int .i64 a0, .int .i64 a1]] w fun e w' => e = .returned (.string (encS [a0, a1])) ∧ Below w.heap.size w w' := by
  have HE := Lib.hid (show encS [a0, a1] = (M.encB (M.zig a0).toNat ++ M.encB (M.zig a1).toNat) by
    rw [encS_cons, encS_cons]
    simp only [encS_nil, append_empty])
  have HI0 := Lib.hid (fun (W : World) => int11 a0 W (hin a0 (by simp)).1 (hin a0 (by simp)).2)
  have HI1 := Lib.hid (fun (W : World) => int11 a1 W (hin a1 (by simp)).1 (hin a1 (by simp)).2)
  have z0 := encB_size (M.zig a0).toNat
  have z1 := encB_size (M.zig a1).toNat
  obtain ⟨x0, hx0⟩ : ∃ x, M.encB (M.zig a0).toNat = x := ⟨_, rfl⟩
  obtain ⟨x1, hx1⟩ : ∃ x, M.encB (M.zig a1).toNat = x := ⟨_, rfl⟩
  simp only [hx0, hx1] at HE HI0 HI1 z0 z1
  rw [HE.out]
  have HR := Lib.hid (RowS.new w #[.int .i64 a0, .int .i64 a1] 25)
  clear hin hx0 hx1
  go_enter Tryd.func14, Tryd.ntmps14
  go_wp2
  refine wp_region_held_drew (S := fun W => RowS w #[.int .i64 a0, .int .i64 a1] 25 W) (by kernel_rfl) (HR.out) (fun hS => ?_)
  refine wpAnyH_take (i := 0) (v := .pointer (some ⟨w.heap.size, 0, none⟩)) rfl (by kernel_rfl) (by kernel_rfl) (by kernel_rfl) (fun _ _ _ h => h) (Or.inl ⟨by simp [Region.wanted], fun W _ => by go_simp⟩) hS ?_
  simp only [List.getElem_toArray, List.getElem_cons_zero, Act.put, List.setIfInBounds_toArray, List.set_cons_zero, List.set_cons_succ]
  refine wpAnyH_take (i := 1) (v := .int .i64 a0) rfl (by kernel_rfl) (by kernel_rfl) (by kernel_rfl) (fun _ _ _ h => h) (Or.inl ⟨by simp [Region.wanted], fun W hW => by have c := hW.cell 0 (.int .i64 a0) rfl; go_simp⟩) hS ?_
  simp only [List.getElem_toArray, List.getElem_cons_zero, List.getElem_cons_succ, Act.put, List.setIfInBounds_toArray, List.set_cons_zero, List.set_cons_succ]
  refine wpAnyH_take (i := 3) (v := .pointer (some ⟨w.heap.size, 1, none⟩)) rfl (by kernel_rfl) (by kernel_rfl) (by kernel_rfl) (fun _ _ _ h => h) (Or.inl ⟨by simp [Region.wanted], fun W _ => by go_simp⟩) hS ?_
  simp only [List.getElem_toArray, List.getElem_cons_zero, List.getElem_cons_succ, Act.put, List.setIfInBounds_toArray, List.set_cons_zero, List.set_cons_succ]
  refine wpAnyH_take (i := 4) (v := .int .i64 a1) rfl (by kernel_rfl) (by kernel_rfl) (by kernel_rfl) (fun _ _ _ h => h) (Or.inl ⟨by simp [Region.wanted], fun W hW => by have c := hW.cell 1 (.int .i64 a1) rfl; go_simp⟩) hS ?_
  simp only [List.getElem_toArray, List.getElem_cons_zero, List.getElem_cons_succ, Act.put, List.setIfInBounds_toArray, List.set_cons_zero, List.set_cons_succ]
  refine wpAnyH_ready (rs := [2]) (by kernel_rfl) (by simp) ?_
  refine AllReadyH.cons rfl (fun K1 hK1 => ?_) AllReadyH.nil
  refine wanted_go rfl ?_
  simp only [List.getElem_toArray, List.getElem_cons_zero, List.getElem_cons_succ]
  go_wp2_with (go_at_call 30; refine (HI0.out _).mono ?_; rintro e W1 ⟨rfl, hb⟩; have HB1 := Lib.hid hb; clear hb)
  refine hK1.out _ _ (hS.below HB1.out) (fun hS1 => ?_)
  refine wpAnyH_ready (rs := [5]) (by kernel_rfl) (by simp) ?_
  refine AllReadyH.cons rfl (fun K2 hK2 => ?_) AllReadyH.nil
  refine wanted_go rfl ?_
  simp only [List.getElem_toArray, List.getElem_cons_zero, List.getElem_cons_succ]
  go_wp2_with (go_at_call 30; refine (HI1.out _).mono ?_; rintro e W2 ⟨rfl, hb⟩; have HB2 := Lib.hid hb; clear hb)
  refine hK2.out _ _ (hS1.below HB2.out) (fun hS2 => ?_)
  refine wpAnyH_take (i := 6) (v := .string (x0 ++ x1)) rfl (by kernel_rfl) (by kernel_rfl) (by kernel_rfl) (fun _ _ _ h => h) (Or.inl ⟨by simp [Region.wanted], fun W _ => by go_simp; omega⟩) hS2 ?_
  simp only [List.getElem_toArray, List.getElem_cons_zero, List.getElem_cons_succ, Act.put, List.setIfInBounds_toArray, List.set_cons_zero, List.set_cons_succ]
  refine wpAnyH_take (i := 7) (v := .string (x0 ++ x1)) rfl (by kernel_rfl) (by kernel_rfl) (by kernel_rfl) (fun _ _ _ h => h) (Or.inl ⟨by simp [Region.wanted], fun W _ => by go_simp⟩) hS2 ?_
  simp only [List.getElem_toArray, List.getElem_cons_zero, List.getElem_cons_succ, Act.put, List.setIfInBounds_toArray, List.set_cons_zero, List.set_cons_succ]
  refine wpAnyH_done (by kernel_rfl) ?_ _
  go_wp2
  go_ret
  exact ⟨rfl, hS2.2⟩

set_option maxRecDepth 100000 in
set_option maxHeartbeats 2000000 in
theorem rput15 (a0 a1 a2 a3 a4 a5 a6 a7 a8 : Int) (w : World) (hin : In64L [a0, a1, a2, a3, a4, a5, a6, a7, a8]) :
    Calls Tryd.prog 15 #[.agg #[.int .i64 a0, .int .i64 a1, .int .i64 a2, .int .i64 a3, .int .i64 a4, .int .i64 a5, .int .i64 a6, .int .i64 a7, .int .i64 a8]] w fun e w' => e = .returned (.string (encS [a0, a1, a2, a3, a4, a5, a6, a7, a8])) ∧ Below w.heap.size w w' := by
  have HE := Lib.hid (encS_app [a0, a1, a2, a3, a4, a5, a6] [a7, a8])
  have HI0 := Lib.hid (fun (W : World) => rput13 a0 a1 a2 a3 a4 a5 a6 W (fun x hx => hin x (by simp at hx ⊢; rcases hx with h | h | h | h | h | h | h <;> simp [h])))
  have HI1 := Lib.hid (fun (W : World) => rput14 a7 a8 W (fun x hx => hin x (by simp at hx ⊢; rcases hx with h | h <;> simp [h])))
  have z0 : (encS [a0, a1, a2, a3, a4, a5, a6]).size ≤ 70 := encS_size _
  have z1 : (encS [a7, a8]).size ≤ 20 := encS_size _
  obtain ⟨x0, hx0⟩ : ∃ x, encS [a0, a1, a2, a3, a4, a5, a6] = x := ⟨_, rfl⟩
  obtain ⟨x1, hx1⟩ : ∃ x, encS [a7, a8] = x := ⟨_, rfl⟩
  rw [hx0] at HI0 z0; rw [hx1] at HI1 z1
  have HF : Hid (encS [a0, a1, a2, a3, a4, a5, a6, a7, a8] = x0 ++ x1) := by show _ = _; rw [← hx0, ← hx1]; exact HE.out
  rw [HF.out]
  have HR := Lib.hid (RowS.new w #[.int .i64 a0, .int .i64 a1, .int .i64 a2, .int .i64 a3, .int .i64 a4, .int .i64 a5, .int .i64 a6, .int .i64 a7, .int .i64 a8] 27)
  clear hin hx0 hx1 HE
  go_enter Tryd.func15, Tryd.ntmps15
  go_wp2
  refine wp_region_held_drew (S := fun W => RowS w #[.int .i64 a0, .int .i64 a1, .int .i64 a2, .int .i64 a3, .int .i64 a4, .int .i64 a5, .int .i64 a6, .int .i64 a7, .int .i64 a8] 27 W) (by kernel_rfl) (HR.out) (fun hS => ?_)
  refine wpAnyH_take (i := 0) (v := .pointer (some ⟨w.heap.size, 0, none⟩)) rfl (by kernel_rfl) (by kernel_rfl) (by kernel_rfl) (fun _ _ _ h => h) (Or.inl ⟨by simp [Region.wanted], fun W _ => by go_simp⟩) hS ?_
  simp only [List.getElem_toArray, List.getElem_cons_zero, Act.put, List.setIfInBounds_toArray, List.set_cons_zero, List.set_cons_succ]
  refine wpAnyH_take (i := 1) (v := .agg #[.int .i64 a0, .int .i64 a1, .int .i64 a2, .int .i64 a3, .int .i64 a4, .int .i64 a5, .int .i64 a6]) rfl (by kernel_rfl) (by kernel_rfl) (by kernel_rfl) (fun _ _ _ h => h) (yieldsIf_load rfl 23 (.tmp 3) rfl _ _ rfl (fun W hW => load_at W w.heap.size 0 23 [.int .i64 a0, .int .i64 a1, .int .i64 a2, .int .i64 a3, .int .i64 a4, .int .i64 a5, .int .i64 a6] _ (hW.range 0 7) Tryd.underlying23 rfl (by kernel_rfl))) hS ?_
  simp only [List.getElem_toArray, List.getElem_cons_zero, List.getElem_cons_succ, Act.put, List.setIfInBounds_toArray, List.set_cons_zero, List.set_cons_succ]
  refine wpAnyH_take (i := 3) (v := .pointer (some ⟨w.heap.size, 7, none⟩)) rfl (by kernel_rfl) (by kernel_rfl) (by kernel_rfl) (fun _ _ _ h => h) (Or.inl ⟨by simp [Region.wanted], fun W _ => by go_simp⟩) hS ?_
  simp only [List.getElem_toArray, List.getElem_cons_zero, List.getElem_cons_succ, Act.put, List.setIfInBounds_toArray, List.set_cons_zero, List.set_cons_succ]
  refine wpAnyH_take (i := 4) (v := .agg #[.int .i64 a7, .int .i64 a8]) rfl (by kernel_rfl) (by kernel_rfl) (by kernel_rfl) (fun _ _ _ h => h) (yieldsIf_load rfl 25 (.tmp 6) rfl _ _ rfl (fun W hW => load_at W w.heap.size 7 25 [.int .i64 a7, .int .i64 a8] _ (hW.range 7 2) Tryd.underlying25 rfl (by kernel_rfl))) hS ?_
  simp only [List.getElem_toArray, List.getElem_cons_zero, List.getElem_cons_succ, Act.put, List.setIfInBounds_toArray, List.set_cons_zero, List.set_cons_succ]
  refine wpAnyH_ready (rs := [2]) (by kernel_rfl) (by simp) ?_
  refine AllReadyH.cons rfl (fun K1 hK1 => ?_) AllReadyH.nil
  refine wanted_go rfl ?_
  simp only [List.getElem_toArray, List.getElem_cons_zero, List.getElem_cons_succ]
  go_wp2_with (go_at_call 13; refine (HI0.out _).mono ?_; rintro e W1 ⟨rfl, hb⟩; have HB1 := Lib.hid hb; clear hb)
  refine hK1.out _ _ (hS.below HB1.out) (fun hS1 => ?_)
  refine wpAnyH_ready (rs := [5]) (by kernel_rfl) (by simp) ?_
  refine AllReadyH.cons rfl (fun K2 hK2 => ?_) AllReadyH.nil
  refine wanted_go rfl ?_
  simp only [List.getElem_toArray, List.getElem_cons_zero, List.getElem_cons_succ]
  go_wp2_with (go_at_call 14; refine (HI1.out _).mono ?_; rintro e W2 ⟨rfl, hb⟩; have HB2 := Lib.hid hb; clear hb)
  refine hK2.out _ _ (hS1.below HB2.out) (fun hS2 => ?_)
  refine wpAnyH_take (i := 6) (v := .string (x0 ++ x1)) rfl (by kernel_rfl) (by kernel_rfl) (by kernel_rfl) (fun _ _ _ h => h) (Or.inl ⟨by simp [Region.wanted], fun W _ => by go_simp; omega⟩) hS2 ?_
  simp only [List.getElem_toArray, List.getElem_cons_zero, List.getElem_cons_succ, Act.put, List.setIfInBounds_toArray, List.set_cons_zero, List.set_cons_succ]
  refine wpAnyH_take (i := 7) (v := .string (x0 ++ x1)) rfl (by kernel_rfl) (by kernel_rfl) (by kernel_rfl) (fun _ _ _ h => h) (Or.inl ⟨by simp [Region.wanted], fun W _ => by go_simp⟩) hS2 ?_
  simp only [List.getElem_toArray, List.getElem_cons_zero, List.getElem_cons_succ, Act.put, List.setIfInBounds_toArray, List.set_cons_zero, List.set_cons_succ]
  refine wpAnyH_done (by kernel_rfl) ?_ _
  go_wp2
  go_ret
  exact ⟨rfl, hS2.2⟩

end Go.Proofs.YtnakmlnjfjgghaaDoor
