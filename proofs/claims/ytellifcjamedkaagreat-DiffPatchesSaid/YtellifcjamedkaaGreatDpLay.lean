/- A row laid onto a book: the program's contract. -/
import Derived.Test.YtellifcjamedkaaGreatDpBk
import Derived.Test.YtellifcjamedkaaGreatMDp
import Derived.Test.YtellifcjamedkaaGreatDpDiff
import Derived.Lib.AppendZeros
namespace Go.Proofs.YtellifcjamedkaaGreat
open Go.RowKit Base Base2
open List renaming getElem_toArray → lgT, getElem_cons_zero → lgZ, getElem_cons_succ → lgS, setIfInBounds_toArray → lsT, set_cons_zero → lsZ, set_cons_succ → lsS
theorem infoZHolder : (Tryz.prog.info? 71).map (fun i => (i.zero, i.size, i.bytes)) = some (some (.agg #[.int .i64 0, .int .i64 0, .int .i64 0, .int .i64 0]), 4, 32) := by kernel_rfl
theorem infoZStake : (Tryz.prog.info? 73).map (fun i => (i.zero, i.size, i.bytes)) = some (some (.agg #[.int .i64 0, .int .i64 0, .int .i64 0]), 3, 24) := by kernel_rfl
theorem infoZOpen : (Tryz.prog.info? 76).map (fun i => (i.zero, i.size, i.bytes)) = some (some (.agg #[.int .i64 0, .int .i64 0, .int .i64 0, .int .i64 0, .int .i64 0, .int .i64 0]), 6, 48) := by kernel_rfl
theorem infoZRate : (Tryz.prog.info? 50).map (fun i => (i.zero, i.size, i.bytes)) = some (some (.agg #[.int .i64 0, .int .i64 0]), 2, 16) := by kernel_rfl
theorem BkS.setCo [LowB] {B gb : Nat} {W : World} {v : Slots} {b : BookT} (h : BkS B gb W v b) (n : Int) : BkS B gb (W.setCell ⟨gb, 4, none⟩ (.int .i64 n)) v { b with co := n } ∧ KeepT W (W.setCell ⟨gb, 4, none⟩ (.int .i64 n)) ∧ Below B W (W.setCell ⟨gb, 4, none⟩ (.int .i64 n)) := by
  refine ⟨⟨?_, own_set' h.h h.box (by decide), own_set' h.s h.box (by decide), own_set' h.o h.box (by decide), own_set' h.r h.box (by decide), h.lo, h.hl⟩, KeepT.set h.box rfl _ (Nat.le_trans h.hl h.lo), (Below.refl _ _).setCell h.lo _⟩
  unfold BoxB
  rw [set_blkN h.box]
  simp [cellsB]
theorem KeepT.val [LowB] {W W' : World} {a : Option Addr} {v : List Int} (h : KeepT W W') (hv : ValAt W a v) : ValAt W' a v := hv.keep fun k _cs hk => h.same k _ hk rfl
/-- Values that stay while a book is made: in a block of numbers, or low. -/
def LayV [LowB] (W : World) (a : Option Addr) (v : List Int) : Prop := ValAt W a v ∨ ∃ k off, a = some ⟨k, off, none⟩ ∧ k < LowB.n ∧ k < W.heap.size ∧ ∀ (i : Nat) (z : Int), v[i]? = some z → W.cell? ⟨k, off + i, none⟩ = some (.int .i64 z)
theorem val_cells [LowB] {W : World} {a : Option Addr} {v : List Int} (h : LayV W a v) (hne : v ≠ []) : ∃ k off, a = some ⟨k, off, none⟩ ∧ ∀ W', KeepT W W' → ∀ (i : Nat) (z : Int), v[i]? = some z → W'.cell? ⟨k, off + i, none⟩ = some (.int .i64 z) := by
  rcases h with (h | ⟨k, off, cs, h1, h2, h3⟩) | ⟨k, off, h1, h2, h3, h4⟩
  · exact absurd h hne
  · exact ⟨k, off, h1, fun W' hk i z hz => by rw [cell_of_row _ _ _ _ _ _ (hk.same k _ h2 rfl)]; exact h3 i z hz⟩
  · refine ⟨k, off, h1, fun W' hk i z hz => ?_⟩
    rw [World.cell?_of_block (a := ⟨k, off + i, none⟩) (show W'.heap[k]? = W.heap[k]? by rw [hk.low k (W.heap[k]) h2 (by simp [h3])]; simp [h3])]
    exact h4 i z hz
/-- Whatever other book's box lies as it lay. -/
def KeepG (gb : Nat) (W W' : World) : Prop := ∀ (k : Nat) (cs : Array Value), W.heap[k]? = some (.cells cs 27 (0, 0)) → k ≠ gb → W'.heap[k]? = some (.cells cs 27 (0, 0))
theorem KeepG.below {gb : Nat} {W W' : World} (h : Below W.heap.size W W') : KeepG gb W W' := fun k _ hk _ => (h.block k (lt_of_blk hk)).trans hk
theorem KeepG.trans {gb : Nat} {A B C : World} (h : KeepG gb A B) (k : KeepG gb B C) : KeepG gb A C := fun i cs h1 h2 => k i cs (h i cs h1 h2) h2
theorem KeepG.grown {gb B n k : Nat} {W W' : World} {T : TypeId} {v : Value} {xs : List Value} (h : W.ownsRow B T k v n xs) (hg : W.grownBy W' v.ownBlock) (hT : 27 ≠ T) : KeepG gb W W' := fun i _ hi _ => (hg.block i (lt_of_blk hi) (own_ne' h hi hT)).trans hi
theorem KeepG.set {gb i : Nat} {W : World} (v : Value) : KeepG gb W (W.setCell ⟨gb, i, none⟩ v) := fun k _ h1 h2 => (Below.heap_setCell _ _ _ k h2).trans h1
/-- What lay does. -/
def LayOut [LowB] (B gb : Nat) (w : World) (b : BookT) (e : Ending) (w' : World) : Prop := e = .returned (.tuple #[]) ∧ (∃ v', BkS B gb w' v' b) ∧ KeepT w w' ∧ Below B w w' ∧ KeepG gb w w'
set_option maxRecDepth 100000 in
set_option maxHeartbeats 8000000 in
theorem layHolder [LowB] (B gb : Nat) (v : Slots) (b : BookT) (a kb : Int) (V : List Int) (A : Option Addr) (C : Nat) (w : World) (h : BkS B gb w v b) (hB : B ≤ w.heap.size) (hr : LayV w A V) (hv : V.length = 3) (hm : b.hs.length ≤ 20000) :
    Calls Tryz.prog 22 #[.pointer (some ⟨gb, 0, none⟩), .agg #[.int .i64 1, .int .i64 a, .int .i64 kb, .slice A 3 C]] w (LayOut B gb w (layB b ⟨1, a, kb, V⟩)) := by
  obtain ⟨v0, v1, v2, rfl⟩ : ∃ v0 v1 v2, V = [v0, v1, v2] := by
    match V, hv with
    | [v0, v1, v2], _ => exact ⟨v0, v1, v2, rfl⟩
  obtain ⟨vg, vo, rfl, hvc⟩ := val_cells hr (by simp)
  have hA : Below w.heap.size w (w.alloc (.cells #[.int .i64 1, .int .i64 a, .int .i64 kb, .slice (some ⟨vg, vo, none⟩) 3 C] 58)) := (Below.refl _ w).alloc (Nat.le_refl _) _
  have HBK := Lib.hid (h.below hA)
  have HVC := Lib.hid hvc
  have HBB := Lib.hid hB
  have hkA := KeepT.below hA
  obtain ⟨W0, hW0⟩ : ∃ x, w.alloc (.cells #[.int .i64 1, .int .i64 a, .int .i64 kb, .slice (some ⟨vg, vo, none⟩) 3 C] 58) = x := ⟨_, rfl⟩
  have hbx : W0.heap[w.heap.size]? = some (.cells #[.int .i64 1, .int .i64 a, .int .i64 kb, .slice (some ⟨vg, vo, none⟩) 3 C] 58 (0, 0)) := by rw [← hW0]; exact heap_alloc_new w _
  rw [hW0] at HBK hA hkA
  have HW0 := Lib.hid hW0
  have HA := Lib.hid hA
  have HKA := Lib.hid hkA
  have HBX := Lib.hid (fun W (hk : KeepT W0 W) => hk.same _ _ hbx rfl)
  have x0 : W0.cell? ⟨w.heap.size, 0, none⟩ = some (.int .i64 1) := by rw [cell_of_row _ _ _ _ _ _ hbx]; rfl
  have x1 : W0.cell? ⟨w.heap.size, 1, none⟩ = some (.int .i64 a) := by rw [cell_of_row _ _ _ _ _ _ hbx]; rfl
  have x3 : W0.cell? ⟨w.heap.size, 3, none⟩ = some (.slice (some ⟨vg, vo, none⟩) 3 C) := by rw [cell_of_row _ _ _ _ _ _ hbx]; rfl
  obtain ⟨i0, hi0, hz0', hz1', hz2'⟩ := info_parts infoZHolder
  clear h hr hvc hB hA hkA hbx hv
  go_enter Tryz.func22, Tryz.ntmps22
  go_upto_region 1 with (fail)
  clear hW0
  go_quiet (fail)
  go_upto_region 2 with (fail)
  refine at_world (Φ := fun W => KeepT W0 W ∧ Below W0.heap.size W0 W ∧ W.cell? ⟨w.heap.size, 0, none⟩ = some (.int .i64 1)) ⟨KeepT.below (below_drews nq), below_drews nq, x0⟩ ?_
  clear x0 x1 x3
  rintro W1 ⟨hk1, hb1, x0⟩
  have HK1 := Lib.hid hk1
  have HB1 := Lib.hid hb1
  have HBK1 := Lib.hid (HBK.out.below hb1)
  have hown := HBK1.out.h
  have HOWN := Lib.hid hown
  have hec := HBK1.out.box.cells.1
  have HEC := Lib.hid hec
  have HSZ := Lib.hid (show B ≤ W1.heap.size from Nat.le_trans (Nat.le_trans HBB.out HA.out.size) hb1.size)
  have HGB := Lib.hid (lt_of_blk HBK1.out.box)
  have HVV := Lib.hid (fun W (hk : KeepT W1 W) => HVC.out W ((HKA.out.trans HK1.out).trans hk))
  have HXX := Lib.hid (fun W (hk : KeepT W1 W) => HBX.out W (HK1.out.trans hk))
  clear hk1 hb1 hown hec
  go_upto_region 4 with (fail)
  clear x0
  have HAL := Lib.hid (show Below W1.heap.size W1 (W1.alloc (.cells #[.int .i64 a, .int .i64 v0, .int .i64 v1, .int .i64 v2] 71)).drew from ((Below.refl _ _).alloc (Nat.le_refl _) _).drew)
  refine wp_region_held_drew (S := fun W => KeepT W1 W) (by kernel_rfl) (KeepT.below ((Below.refl _ _).drew)) (fun hS => ?_)
  refine wpAnyH_take (i := 0) (v := .pointer (some ⟨gb, 0, none⟩)) rfl (by kernel_rfl) (by kernel_rfl) (by kernel_rfl) (fun _ _ _ h => h) (Or.inl ⟨by simp [Region.wanted], fun W _ => by go_simp⟩) hS ?_
  simp only [lgT, lgZ, Act.put, lsT, lsZ, lsS]
  refine wpAnyH_take (i := 1) (v := .pointer (some ⟨gb, 0, none⟩)) rfl (by kernel_rfl) (by kernel_rfl) (by kernel_rfl) (fun _ _ _ h => h) (Or.inl ⟨by simp [Region.wanted], fun W _ => by go_simp⟩) hS ?_
  simp only [lgT, lgZ, lgS, Act.put, lsT, lsZ, lsS]
  refine wpAnyH_take (i := 2) (v := .pointer (some ⟨gb, 0, none⟩)) rfl (by kernel_rfl) (by kernel_rfl) (by kernel_rfl) (fun _ _ _ h => h) (Or.inl ⟨by simp [Region.wanted], fun W _ => by go_simp⟩) hS ?_
  simp only [lgT, lgZ, lgS, Act.put, lsT, lsZ, lsS]
  refine wpAnyH_take (i := 3) (v := .pointer (some ⟨gb, 0, none⟩)) rfl (by kernel_rfl) (by kernel_rfl) (by kernel_rfl) (fun _ _ _ h => h) (Or.inl ⟨by simp [Region.wanted], fun W _ => by go_simp⟩) hS ?_
  simp only [lgT, lgZ, lgS, Act.put, lsT, lsZ, lsS]
  refine wpAnyH_take (i := 5) (v := .int .i64 a) rfl (by kernel_rfl) (by kernel_rfl) (by kernel_rfl) (fun _ _ _ h => h) (Or.inl ⟨by simp [Region.wanted], fun W _ => by go_simp⟩) hS ?_
  simp only [lgT, lgZ, lgS, Act.put, lsT, lsZ, lsS]
  refine wpAnyH_take (i := 6) (v := .slice (some ⟨vg, vo, none⟩) 3 C) rfl (by kernel_rfl) (by kernel_rfl) (by kernel_rfl) (fun _ _ _ h => h) (Or.inl ⟨by simp [Region.wanted], fun W _ => by go_simp⟩) hS ?_
  simp only [lgT, lgZ, lgS, Act.put, lsT, lsZ, lsS]
  refine wpAnyH_take (i := 7) (v := .pointer (some ⟨vg, vo, none⟩)) rfl (by kernel_rfl) (by kernel_rfl) (by kernel_rfl) (fun _ _ _ h => h) (Or.inl ⟨by simp [Region.wanted], fun W _ => by go_simp⟩) hS ?_
  simp only [lgT, lgZ, lgS, Act.put, lsT, lsZ, lsS]
  refine wpAnyH_take (i := 8) (v := .int .i64 v0) rfl (by kernel_rfl) (by kernel_rfl) (by kernel_rfl) (fun _ _ _ h => h) (Or.inl ⟨by simp [Region.wanted], fun W hW => by have kz := HVV.out W hW 0 v0 rfl; rw [Nat.add_zero] at kz; go_simp⟩) hS ?_
  simp only [lgT, lgZ, lgS, Act.put, lsT, lsZ, lsS]
  refine wpAnyH_take (i := 9) (v := .slice (some ⟨vg, vo, none⟩) 3 C) rfl (by kernel_rfl) (by kernel_rfl) (by kernel_rfl) (fun _ _ _ h => h) (Or.inl ⟨by simp [Region.wanted], fun W _ => by go_simp⟩) hS ?_
  simp only [lgT, lgZ, lgS, Act.put, lsT, lsZ, lsS]
  refine wpAnyH_take (i := 10) (v := .pointer (some ⟨vg, vo + 1, none⟩)) rfl (by kernel_rfl) (by kernel_rfl) (by kernel_rfl) (fun _ _ _ h => h) (Or.inl ⟨by simp [Region.wanted], fun W _ => by go_simp⟩) hS ?_
  simp only [lgT, lgZ, lgS, Act.put, lsT, lsZ, lsS]
  refine wpAnyH_take (i := 11) (v := .int .i64 v1) rfl (by kernel_rfl) (by kernel_rfl) (by kernel_rfl) (fun _ _ _ h => h) (Or.inl ⟨by simp [Region.wanted], fun W hW => by have kz := HVV.out W hW 1 v1 rfl; go_simp⟩) hS ?_
  simp only [lgT, lgZ, lgS, Act.put, lsT, lsZ, lsS]
  refine wpAnyH_take (i := 12) (v := .slice (some ⟨vg, vo, none⟩) 3 C) rfl (by kernel_rfl) (by kernel_rfl) (by kernel_rfl) (fun _ _ _ h => h) (Or.inl ⟨by simp [Region.wanted], fun W _ => by go_simp⟩) hS ?_
  simp only [lgT, lgZ, lgS, Act.put, lsT, lsZ, lsS]
  refine wpAnyH_take (i := 13) (v := .pointer (some ⟨vg, vo + 2, none⟩)) rfl (by kernel_rfl) (by kernel_rfl) (by kernel_rfl) (fun _ _ _ h => h) (Or.inl ⟨by simp [Region.wanted], fun W _ => by go_simp⟩) hS ?_
  simp only [lgT, lgZ, lgS, Act.put, lsT, lsZ, lsS]
  refine wpAnyH_take (i := 14) (v := .int .i64 v2) rfl (by kernel_rfl) (by kernel_rfl) (by kernel_rfl) (fun _ _ _ h => h) (Or.inl ⟨by simp [Region.wanted], fun W hW => by have kz := HVV.out W hW 2 v2 rfl; go_simp⟩) hS ?_
  simp only [lgT, lgZ, lgS, Act.put, lsT, lsZ, lsS]
  refine wpAnyH_take (i := 15) (v := .agg #[.int .i64 a, .int .i64 v0, .int .i64 v1, .int .i64 v2]) rfl (by kernel_rfl) (by kernel_rfl) (by kernel_rfl) (fun _ _ _ h => h) (Or.inl ⟨by simp [Region.wanted], fun W _ => by go_simp⟩) hS ?_
  simp only [lgT, lgZ, lgS, Act.put, lsT, lsZ, lsS]
  refine wpAnyH_ready (rs := [4, 16]) (by kernel_rfl) (by simp) ?_
  refine AllReadyH.cons rfl (fun KA hKA => ?_) (AllReadyH.cons rfl (fun KA hKA => ?_) AllReadyH.nil)
  · refine wanted_go rfl ?_
    simp only [lgT, lgZ, lgS]
    have ec := HEC.out
    go_wp2
    refine hKA.out _ _ (KeepT.below ((Below.refl _ _).drew)) (fun _ => ?_)
    clear ec
    refine wpAnyH_ready (rs := [16]) (by kernel_rfl) (by simp) ?_
    refine AllReadyH.cons rfl (fun KB hKB => ?_) AllReadyH.nil
    refine wanted_go rfl ?_
    simp only [lgT, lgZ, lgS]
    go_wp2
    refine hKB.out _ _ (KeepT.below HAL.out) (fun _ => ?_)
    obtain ⟨v', w2, hr, hown, hgrow, _⟩ := run_append_own (P := Tryz.prog) (w := (W1.alloc (.cells #[.int .i64 a, .int .i64 v0, .int .i64 v1, .int .i64 v2] 71)).drew) B 22 22 71 i0 _ 4 32 Tryz.underlying22 hi0 hz0' hz1' hz2' rfl (by decide) _ _ _ (own_below' HOWN.out HAL.out) ⟨W1.heap.size, 0, none⟩ 1 1 [.int .i64 a, .int .i64 v0, .int .i64 v1, .int .i64 v2] rfl (fun j u hu => new_cells W1 [.int .i64 a, .int .i64 v0, .int .i64 v1, .int .i64 v2] 71 j u hu) (one_items [a, v0, v1, v2]) (by unfold maxLen; omega) (by omega) (Nat.le_trans HSZ.out HAL.out.size)
    obtain ⟨av, cv, hv⟩ := own_formK hown
    subst hv
    obtain ⟨hN1, hN2, hN3, hN4, hN5⟩ := (HBK1.out.below HAL.out).appHolder (x := [a, v0, v1, v2]) (a := av) (cp := cv) (w2 := w2) hown hgrow (Nat.le_trans HSZ.out HAL.out.size)
    have HKQ := Lib.hid (KeepT.below HAL.out)
    have hfz := free_of_blkN hN4 0
    obtain ⟨uo, hcc⟩ := cell_of_blkN hN4 0 (by simp [cellsB])
    refine wpAnyH_ready (rs := [17]) (by kernel_rfl) (by simp) ?_
    refine AllReadyH.cons rfl (fun KE hKE => ?_) AllReadyH.nil
    refine wanted_go rfl ?_
    simp only [lgT, lgZ, lgS]
    refine Lib.wp_append_run _ _ _ _ _ rfl _ _ rfl rfl _ _ hr ?_
    refine hKE.out _ _ (HKQ.out.trans hN5) (fun hSE => ?_)
    refine wpAnyH_take (i := 18) (v := .pointer (some ⟨gb, 0, none⟩)) rfl (by kernel_rfl) (by kernel_rfl) (by kernel_rfl) (fun _ _ _ h => h) (Or.inl ⟨by simp [Region.wanted], fun W _ => by go_simp⟩) hSE ?_
    simp only [lgT, lgZ, lgS, Act.put, lsT, lsZ, lsS]
    refine wpAnyH_take (i := 19) (v := .pointer (some ⟨gb, 0, none⟩)) rfl (by kernel_rfl) (by kernel_rfl) (by kernel_rfl) (fun _ _ _ h => h) (Or.inl ⟨by simp [Region.wanted], fun W _ => by go_simp⟩) hSE ?_
    simp only [lgT, lgZ, lgS, Act.put, lsT, lsZ, lsS]
    refine wpAnyH_ready (rs := [20]) (by kernel_rfl) (by simp) ?_
    refine AllReadyH.cons rfl (fun KF hKF => ?_) AllReadyH.nil
    refine wanted_go rfl ?_
    simp only [lgT, lgZ, lgS]
    go_wp2
    refine hKF.out _ _ (HKQ.out.trans hN2) (fun _ => ?_)
    refine wpAnyH_done (by kernel_rfl) ?_ _
    have HN1 := Lib.hid hN1
    have HN2 := Lib.hid (HKQ.out.trans hN2)
    have HN3 := Lib.hid ((HAL.out.mono HSZ.out).trans hN3)
    have HN6 := Lib.hid ((((KeepG.below HA.out).trans (KeepG.below HB1.out)).trans (KeepG.below (gb := gb) HAL.out)).trans ((KeepG.grown (own_below' HOWN.out HAL.out) hgrow (by decide)).trans (KeepG.set (i := 0) (.slice av (b.hs.length + 1) cv))))
    clear hN1 hN2 hN3 hN4 hN5 hown hgrow hr hfz hcc hSE
    go_wp2
    go_end0
    exact ⟨rfl, ⟨_, HN1.out⟩, (HKA.out.trans HK1.out).trans HN2.out, ((HA.out.mono HBB.out).trans (HB1.out.mono (Nat.le_trans HBB.out HA.out.size))).trans HN3.out, HN6.out⟩
  · refine wanted_go rfl ?_
    simp only [lgT, lgZ, lgS]
    go_wp2
    refine hKA.out _ _ (KeepT.below HAL.out) (fun _ => ?_)
    refine wpAnyH_ready (rs := [4]) (by kernel_rfl) (by simp) ?_
    refine AllReadyH.cons rfl (fun KB hKB => ?_) AllReadyH.nil
    refine wanted_go rfl ?_
    simp only [lgT, lgZ, lgS]
    have ec := (HAL.out.cell (p := ⟨gb, 0, none⟩) HGB.out).trans HEC.out
    go_wp2
    refine hKB.out _ _ (KeepT.below HAL.out) (fun _ => ?_)
    clear ec
    obtain ⟨v', w2, hr, hown, hgrow, _⟩ := run_append_own (P := Tryz.prog) (w := (W1.alloc (.cells #[.int .i64 a, .int .i64 v0, .int .i64 v1, .int .i64 v2] 71)).drew) B 22 22 71 i0 _ 4 32 Tryz.underlying22 hi0 hz0' hz1' hz2' rfl (by decide) _ _ _ (own_below' HOWN.out HAL.out) ⟨W1.heap.size, 0, none⟩ 1 1 [.int .i64 a, .int .i64 v0, .int .i64 v1, .int .i64 v2] rfl (fun j u hu => new_cells W1 [.int .i64 a, .int .i64 v0, .int .i64 v1, .int .i64 v2] 71 j u hu) (one_items [a, v0, v1, v2]) (by unfold maxLen; omega) (by omega) (Nat.le_trans HSZ.out HAL.out.size)
    obtain ⟨av, cv, hv⟩ := own_formK hown
    subst hv
    obtain ⟨hN1, hN2, hN3, hN4, hN5⟩ := (HBK1.out.below HAL.out).appHolder (x := [a, v0, v1, v2]) (a := av) (cp := cv) (w2 := w2) hown hgrow (Nat.le_trans HSZ.out HAL.out.size)
    have HKQ := Lib.hid (KeepT.below HAL.out)
    have hfz := free_of_blkN hN4 0
    obtain ⟨uo, hcc⟩ := cell_of_blkN hN4 0 (by simp [cellsB])
    refine wpAnyH_ready (rs := [17]) (by kernel_rfl) (by simp) ?_
    refine AllReadyH.cons rfl (fun KE hKE => ?_) AllReadyH.nil
    refine wanted_go rfl ?_
    simp only [lgT, lgZ, lgS]
    refine Lib.wp_append_run _ _ _ _ _ rfl _ _ rfl rfl _ _ hr ?_
    refine hKE.out _ _ (HKQ.out.trans hN5) (fun hSE => ?_)
    refine wpAnyH_take (i := 18) (v := .pointer (some ⟨gb, 0, none⟩)) rfl (by kernel_rfl) (by kernel_rfl) (by kernel_rfl) (fun _ _ _ h => h) (Or.inl ⟨by simp [Region.wanted], fun W _ => by go_simp⟩) hSE ?_
    simp only [lgT, lgZ, lgS, Act.put, lsT, lsZ, lsS]
    refine wpAnyH_take (i := 19) (v := .pointer (some ⟨gb, 0, none⟩)) rfl (by kernel_rfl) (by kernel_rfl) (by kernel_rfl) (fun _ _ _ h => h) (Or.inl ⟨by simp [Region.wanted], fun W _ => by go_simp⟩) hSE ?_
    simp only [lgT, lgZ, lgS, Act.put, lsT, lsZ, lsS]
    refine wpAnyH_ready (rs := [20]) (by kernel_rfl) (by simp) ?_
    refine AllReadyH.cons rfl (fun KF hKF => ?_) AllReadyH.nil
    refine wanted_go rfl ?_
    simp only [lgT, lgZ, lgS]
    go_wp2
    refine hKF.out _ _ (HKQ.out.trans hN2) (fun _ => ?_)
    refine wpAnyH_done (by kernel_rfl) ?_ _
    have HN1 := Lib.hid hN1
    have HN2 := Lib.hid (HKQ.out.trans hN2)
    have HN3 := Lib.hid ((HAL.out.mono HSZ.out).trans hN3)
    have HN6 := Lib.hid ((((KeepG.below HA.out).trans (KeepG.below HB1.out)).trans (KeepG.below (gb := gb) HAL.out)).trans ((KeepG.grown (own_below' HOWN.out HAL.out) hgrow (by decide)).trans (KeepG.set (i := 0) (.slice av (b.hs.length + 1) cv))))
    clear hN1 hN2 hN3 hN4 hN5 hown hgrow hr hfz hcc hSE
    go_wp2
    go_end0
    exact ⟨rfl, ⟨_, HN1.out⟩, (HKA.out.trans HK1.out).trans HN2.out, ((HA.out.mono HBB.out).trans (HB1.out.mono (Nat.le_trans HBB.out HA.out.size))).trans HN3.out, HN6.out⟩
set_option maxRecDepth 100000 in
set_option maxHeartbeats 8000000 in
theorem layStake [LowB] (B gb : Nat) (v : Slots) (b : BookT) (a kb : Int) (V : List Int) (A : Option Addr) (C : Nat) (w : World) (h : BkS B gb w v b) (hB : B ≤ w.heap.size) (hr : LayV w A V) (hv : V.length = 1) (hm : b.ss.length ≤ 20000) :
    Calls Tryz.prog 22 #[.pointer (some ⟨gb, 0, none⟩), .agg #[.int .i64 2, .int .i64 a, .int .i64 kb, .slice A 1 C]] w (LayOut B gb w (layB b ⟨2, a, kb, V⟩)) := by
  obtain ⟨v0, rfl⟩ : ∃ v0, V = [v0] := by
    match V, hv with
    | [v0], _ => exact ⟨v0, rfl⟩
  obtain ⟨vg, vo, rfl, hvc⟩ := val_cells hr (by simp)
  have hA : Below w.heap.size w (w.alloc (.cells #[.int .i64 2, .int .i64 a, .int .i64 kb, .slice (some ⟨vg, vo, none⟩) 1 C] 58)) := (Below.refl _ w).alloc (Nat.le_refl _) _
  have HBK := Lib.hid (h.below hA)
  have HVC := Lib.hid hvc
  have HBB := Lib.hid hB
  have hkA := KeepT.below hA
  obtain ⟨W0, hW0⟩ : ∃ x, w.alloc (.cells #[.int .i64 2, .int .i64 a, .int .i64 kb, .slice (some ⟨vg, vo, none⟩) 1 C] 58) = x := ⟨_, rfl⟩
  have hbx : W0.heap[w.heap.size]? = some (.cells #[.int .i64 2, .int .i64 a, .int .i64 kb, .slice (some ⟨vg, vo, none⟩) 1 C] 58 (0, 0)) := by rw [← hW0]; exact heap_alloc_new w _
  rw [hW0] at HBK hA hkA
  have HW0 := Lib.hid hW0
  have HA := Lib.hid hA
  have HKA := Lib.hid hkA
  have HBX := Lib.hid (fun W (hk : KeepT W0 W) => hk.same _ _ hbx rfl)
  have x0 : W0.cell? ⟨w.heap.size, 0, none⟩ = some (.int .i64 2) := by rw [cell_of_row _ _ _ _ _ _ hbx]; rfl
  have x1 : W0.cell? ⟨w.heap.size, 1, none⟩ = some (.int .i64 a) := by rw [cell_of_row _ _ _ _ _ _ hbx]; rfl
  have x3 : W0.cell? ⟨w.heap.size, 3, none⟩ = some (.slice (some ⟨vg, vo, none⟩) 1 C) := by rw [cell_of_row _ _ _ _ _ _ hbx]; rfl
  obtain ⟨i0, hi0, hz0', hz1', hz2'⟩ := info_parts infoZStake
  clear h hr hvc hB hA hkA hbx hv
  go_enter Tryz.func22, Tryz.ntmps22
  go_upto_region 1 with (fail)
  clear hW0
  go_quiet (fail)
  go_upto_region 2 with (fail)
  refine at_world (Φ := fun W => KeepT W0 W ∧ Below W0.heap.size W0 W ∧ W.cell? ⟨w.heap.size, 0, none⟩ = some (.int .i64 2)) ⟨KeepT.below (below_drews nq), below_drews nq, x0⟩ ?_
  clear x0 x1 x3
  rintro W1 ⟨hk1, hb1, x0⟩
  have HK1 := Lib.hid hk1
  have HB1 := Lib.hid hb1
  have HBK1 := Lib.hid (HBK.out.below hb1)
  have hown := HBK1.out.s
  have HOWN := Lib.hid hown
  have hec := HBK1.out.box.cells.2.1
  have HEC := Lib.hid hec
  have HSZ := Lib.hid (show B ≤ W1.heap.size from Nat.le_trans (Nat.le_trans HBB.out HA.out.size) hb1.size)
  have HGB := Lib.hid (lt_of_blk HBK1.out.box)
  have HVV := Lib.hid (fun W (hk : KeepT W1 W) => HVC.out W ((HKA.out.trans HK1.out).trans hk))
  have HXX := Lib.hid (fun W (hk : KeepT W1 W) => HBX.out W (HK1.out.trans hk))
  clear hk1 hb1 hown hec
  go_upto_region 6 with (fail)
  clear x0
  have HAL := Lib.hid (show Below W1.heap.size W1 (W1.alloc (.cells #[.int .i64 a, .int .i64 kb, .int .i64 v0] 73)).drew from ((Below.refl _ _).alloc (Nat.le_refl _) _).drew)
  refine wp_region_held_drew (S := fun W => KeepT W1 W) (by kernel_rfl) (KeepT.below ((Below.refl _ _).drew)) (fun hS => ?_)
  refine wpAnyH_take (i := 0) (v := .pointer (some ⟨gb, 0, none⟩)) rfl (by kernel_rfl) (by kernel_rfl) (by kernel_rfl) (fun _ _ _ h => h) (Or.inl ⟨by simp [Region.wanted], fun W _ => by go_simp⟩) hS ?_
  simp only [lgT, lgZ, Act.put, lsT, lsZ, lsS]
  refine wpAnyH_take (i := 1) (v := .pointer (some ⟨gb, 0, none⟩)) rfl (by kernel_rfl) (by kernel_rfl) (by kernel_rfl) (fun _ _ _ h => h) (Or.inl ⟨by simp [Region.wanted], fun W _ => by go_simp⟩) hS ?_
  simp only [lgT, lgZ, lgS, Act.put, lsT, lsZ, lsS]
  refine wpAnyH_take (i := 2) (v := .pointer (some ⟨gb, 0, none⟩)) rfl (by kernel_rfl) (by kernel_rfl) (by kernel_rfl) (fun _ _ _ h => h) (Or.inl ⟨by simp [Region.wanted], fun W _ => by go_simp⟩) hS ?_
  simp only [lgT, lgZ, lgS, Act.put, lsT, lsZ, lsS]
  refine wpAnyH_take (i := 3) (v := .pointer (some ⟨gb, 1, none⟩)) rfl (by kernel_rfl) (by kernel_rfl) (by kernel_rfl) (fun _ _ _ h => h) (Or.inl ⟨by simp [Region.wanted], fun W _ => by go_simp⟩) hS ?_
  simp only [lgT, lgZ, lgS, Act.put, lsT, lsZ, lsS]
  refine wpAnyH_take (i := 5) (v := .int .i64 a) rfl (by kernel_rfl) (by kernel_rfl) (by kernel_rfl) (fun _ _ _ h => h) (Or.inl ⟨by simp [Region.wanted], fun W _ => by go_simp⟩) hS ?_
  simp only [lgT, lgZ, lgS, Act.put, lsT, lsZ, lsS]
  refine wpAnyH_take (i := 6) (v := .pointer (some ⟨w.heap.size, 0, none⟩)) rfl (by kernel_rfl) (by kernel_rfl) (by kernel_rfl) (fun _ _ _ h => h) (Or.inl ⟨by simp [Region.wanted], fun W _ => by go_simp⟩) hS ?_
  simp only [lgT, lgZ, lgS, Act.put, lsT, lsZ, lsS]
  refine wpAnyH_take (i := 7) (v := .pointer (some ⟨w.heap.size, 2, none⟩)) rfl (by kernel_rfl) (by kernel_rfl) (by kernel_rfl) (fun _ _ _ h => h) (Or.inl ⟨by simp [Region.wanted], fun W _ => by go_simp⟩) hS ?_
  simp only [lgT, lgZ, lgS, Act.put, lsT, lsZ, lsS]
  refine wpAnyH_take (i := 8) (v := .int .i64 kb) rfl (by kernel_rfl) (by kernel_rfl) (by kernel_rfl) (fun _ _ _ h => h) (Or.inl ⟨by simp [Region.wanted], fun W hW => by have kc := cell_of_row _ _ 2 _ _ _ (HXX.out W hW); go_simp⟩) hS ?_
  simp only [lgT, lgZ, lgS, Act.put, lsT, lsZ, lsS]
  refine wpAnyH_take (i := 9) (v := .slice (some ⟨vg, vo, none⟩) 1 C) rfl (by kernel_rfl) (by kernel_rfl) (by kernel_rfl) (fun _ _ _ h => h) (Or.inl ⟨by simp [Region.wanted], fun W _ => by go_simp⟩) hS ?_
  simp only [lgT, lgZ, lgS, Act.put, lsT, lsZ, lsS]
  refine wpAnyH_take (i := 10) (v := .pointer (some ⟨vg, vo, none⟩)) rfl (by kernel_rfl) (by kernel_rfl) (by kernel_rfl) (fun _ _ _ h => h) (Or.inl ⟨by simp [Region.wanted], fun W _ => by go_simp⟩) hS ?_
  simp only [lgT, lgZ, lgS, Act.put, lsT, lsZ, lsS]
  refine wpAnyH_take (i := 11) (v := .int .i64 v0) rfl (by kernel_rfl) (by kernel_rfl) (by kernel_rfl) (fun _ _ _ h => h) (Or.inl ⟨by simp [Region.wanted], fun W hW => by have kz := HVV.out W hW 0 v0 rfl; rw [Nat.add_zero] at kz; go_simp⟩) hS ?_
  simp only [lgT, lgZ, lgS, Act.put, lsT, lsZ, lsS]
  refine wpAnyH_take (i := 12) (v := .agg #[.int .i64 a, .int .i64 kb, .int .i64 v0]) rfl (by kernel_rfl) (by kernel_rfl) (by kernel_rfl) (fun _ _ _ h => h) (Or.inl ⟨by simp [Region.wanted], fun W _ => by go_simp⟩) hS ?_
  simp only [lgT, lgZ, lgS, Act.put, lsT, lsZ, lsS]
  refine wpAnyH_ready (rs := [4, 13]) (by kernel_rfl) (by simp) ?_
  refine AllReadyH.cons rfl (fun KA hKA => ?_) (AllReadyH.cons rfl (fun KA hKA => ?_) AllReadyH.nil)
  · refine wanted_go rfl ?_
    simp only [lgT, lgZ, lgS]
    have ec := HEC.out
    go_wp2
    refine hKA.out _ _ (KeepT.below ((Below.refl _ _).drew)) (fun _ => ?_)
    clear ec
    refine wpAnyH_ready (rs := [13]) (by kernel_rfl) (by simp) ?_
    refine AllReadyH.cons rfl (fun KB hKB => ?_) AllReadyH.nil
    refine wanted_go rfl ?_
    simp only [lgT, lgZ, lgS]
    go_wp2
    refine hKB.out _ _ (KeepT.below HAL.out) (fun _ => ?_)
    obtain ⟨v', w2, hr, hown, hgrow, _⟩ := run_append_own (P := Tryz.prog) (w := (W1.alloc (.cells #[.int .i64 a, .int .i64 kb, .int .i64 v0] 73)).drew) B 23 23 73 i0 _ 3 24 Tryz.underlying23 hi0 hz0' hz1' hz2' rfl (by decide) _ _ _ (own_below' HOWN.out HAL.out) ⟨W1.heap.size, 0, none⟩ 1 1 [.int .i64 a, .int .i64 kb, .int .i64 v0] rfl (fun j u hu => new_cells W1 [.int .i64 a, .int .i64 kb, .int .i64 v0] 73 j u hu) (one_items [a, kb, v0]) (by unfold maxLen; omega) (by omega) (Nat.le_trans HSZ.out HAL.out.size)
    obtain ⟨av, cv, hv⟩ := own_formK hown
    subst hv
    obtain ⟨hN1, hN2, hN3, hN4, hN5⟩ := (HBK1.out.below HAL.out).appStake (x := [a, kb, v0]) (a := av) (cp := cv) (w2 := w2) hown hgrow (Nat.le_trans HSZ.out HAL.out.size)
    have HKQ := Lib.hid (KeepT.below HAL.out)
    have hfz := free_of_blkN hN4 1
    obtain ⟨uo, hcc⟩ := cell_of_blkN hN4 1 (by simp [cellsB])
    refine wpAnyH_ready (rs := [14]) (by kernel_rfl) (by simp) ?_
    refine AllReadyH.cons rfl (fun KE hKE => ?_) AllReadyH.nil
    refine wanted_go rfl ?_
    simp only [lgT, lgZ, lgS]
    refine Lib.wp_append_run _ _ _ _ _ rfl _ _ rfl rfl _ _ hr ?_
    refine hKE.out _ _ (HKQ.out.trans hN5) (fun hSE => ?_)
    refine wpAnyH_take (i := 15) (v := .pointer (some ⟨gb, 0, none⟩)) rfl (by kernel_rfl) (by kernel_rfl) (by kernel_rfl) (fun _ _ _ h => h) (Or.inl ⟨by simp [Region.wanted], fun W _ => by go_simp⟩) hSE ?_
    simp only [lgT, lgZ, lgS, Act.put, lsT, lsZ, lsS]
    refine wpAnyH_take (i := 16) (v := .pointer (some ⟨gb, 1, none⟩)) rfl (by kernel_rfl) (by kernel_rfl) (by kernel_rfl) (fun _ _ _ h => h) (Or.inl ⟨by simp [Region.wanted], fun W _ => by go_simp⟩) hSE ?_
    simp only [lgT, lgZ, lgS, Act.put, lsT, lsZ, lsS]
    refine wpAnyH_ready (rs := [17]) (by kernel_rfl) (by simp) ?_
    refine AllReadyH.cons rfl (fun KF hKF => ?_) AllReadyH.nil
    refine wanted_go rfl ?_
    simp only [lgT, lgZ, lgS]
    go_wp2
    refine hKF.out _ _ (HKQ.out.trans hN2) (fun _ => ?_)
    refine wpAnyH_done (by kernel_rfl) ?_ _
    have HN1 := Lib.hid hN1
    have HN2 := Lib.hid (HKQ.out.trans hN2)
    have HN3 := Lib.hid ((HAL.out.mono HSZ.out).trans hN3)
    have HN6 := Lib.hid ((((KeepG.below HA.out).trans (KeepG.below HB1.out)).trans (KeepG.below (gb := gb) HAL.out)).trans ((KeepG.grown (own_below' HOWN.out HAL.out) hgrow (by decide)).trans (KeepG.set (i := 1) (.slice av (b.ss.length + 1) cv))))
    clear hN1 hN2 hN3 hN4 hN5 hown hgrow hr hfz hcc hSE
    go_wp2
    go_end0
    exact ⟨rfl, ⟨_, HN1.out⟩, (HKA.out.trans HK1.out).trans HN2.out, ((HA.out.mono HBB.out).trans (HB1.out.mono (Nat.le_trans HBB.out HA.out.size))).trans HN3.out, HN6.out⟩
  · refine wanted_go rfl ?_
    simp only [lgT, lgZ, lgS]
    go_wp2
    refine hKA.out _ _ (KeepT.below HAL.out) (fun _ => ?_)
    refine wpAnyH_ready (rs := [4]) (by kernel_rfl) (by simp) ?_
    refine AllReadyH.cons rfl (fun KB hKB => ?_) AllReadyH.nil
    refine wanted_go rfl ?_
    simp only [lgT, lgZ, lgS]
    have ec := (HAL.out.cell (p := ⟨gb, 1, none⟩) HGB.out).trans HEC.out
    go_wp2
    refine hKB.out _ _ (KeepT.below HAL.out) (fun _ => ?_)
    clear ec
    obtain ⟨v', w2, hr, hown, hgrow, _⟩ := run_append_own (P := Tryz.prog) (w := (W1.alloc (.cells #[.int .i64 a, .int .i64 kb, .int .i64 v0] 73)).drew) B 23 23 73 i0 _ 3 24 Tryz.underlying23 hi0 hz0' hz1' hz2' rfl (by decide) _ _ _ (own_below' HOWN.out HAL.out) ⟨W1.heap.size, 0, none⟩ 1 1 [.int .i64 a, .int .i64 kb, .int .i64 v0] rfl (fun j u hu => new_cells W1 [.int .i64 a, .int .i64 kb, .int .i64 v0] 73 j u hu) (one_items [a, kb, v0]) (by unfold maxLen; omega) (by omega) (Nat.le_trans HSZ.out HAL.out.size)
    obtain ⟨av, cv, hv⟩ := own_formK hown
    subst hv
    obtain ⟨hN1, hN2, hN3, hN4, hN5⟩ := (HBK1.out.below HAL.out).appStake (x := [a, kb, v0]) (a := av) (cp := cv) (w2 := w2) hown hgrow (Nat.le_trans HSZ.out HAL.out.size)
    have HKQ := Lib.hid (KeepT.below HAL.out)
    have hfz := free_of_blkN hN4 1
    obtain ⟨uo, hcc⟩ := cell_of_blkN hN4 1 (by simp [cellsB])
    refine wpAnyH_ready (rs := [14]) (by kernel_rfl) (by simp) ?_
    refine AllReadyH.cons rfl (fun KE hKE => ?_) AllReadyH.nil
    refine wanted_go rfl ?_
    simp only [lgT, lgZ, lgS]
    refine Lib.wp_append_run _ _ _ _ _ rfl _ _ rfl rfl _ _ hr ?_
    refine hKE.out _ _ (HKQ.out.trans hN5) (fun hSE => ?_)
    refine wpAnyH_take (i := 15) (v := .pointer (some ⟨gb, 0, none⟩)) rfl (by kernel_rfl) (by kernel_rfl) (by kernel_rfl) (fun _ _ _ h => h) (Or.inl ⟨by simp [Region.wanted], fun W _ => by go_simp⟩) hSE ?_
    simp only [lgT, lgZ, lgS, Act.put, lsT, lsZ, lsS]
    refine wpAnyH_take (i := 16) (v := .pointer (some ⟨gb, 1, none⟩)) rfl (by kernel_rfl) (by kernel_rfl) (by kernel_rfl) (fun _ _ _ h => h) (Or.inl ⟨by simp [Region.wanted], fun W _ => by go_simp⟩) hSE ?_
    simp only [lgT, lgZ, lgS, Act.put, lsT, lsZ, lsS]
    refine wpAnyH_ready (rs := [17]) (by kernel_rfl) (by simp) ?_
    refine AllReadyH.cons rfl (fun KF hKF => ?_) AllReadyH.nil
    refine wanted_go rfl ?_
    simp only [lgT, lgZ, lgS]
    go_wp2
    refine hKF.out _ _ (HKQ.out.trans hN2) (fun _ => ?_)
    refine wpAnyH_done (by kernel_rfl) ?_ _
    have HN1 := Lib.hid hN1
    have HN2 := Lib.hid (HKQ.out.trans hN2)
    have HN3 := Lib.hid ((HAL.out.mono HSZ.out).trans hN3)
    have HN6 := Lib.hid ((((KeepG.below HA.out).trans (KeepG.below HB1.out)).trans (KeepG.below (gb := gb) HAL.out)).trans ((KeepG.grown (own_below' HOWN.out HAL.out) hgrow (by decide)).trans (KeepG.set (i := 1) (.slice av (b.ss.length + 1) cv))))
    clear hN1 hN2 hN3 hN4 hN5 hown hgrow hr hfz hcc hSE
    go_wp2
    go_end0
    exact ⟨rfl, ⟨_, HN1.out⟩, (HKA.out.trans HK1.out).trans HN2.out, ((HA.out.mono HBB.out).trans (HB1.out.mono (Nat.le_trans HBB.out HA.out.size))).trans HN3.out, HN6.out⟩
set_option maxRecDepth 100000 in
set_option maxHeartbeats 8000000 in
theorem layOpen [LowB] (B gb : Nat) (v : Slots) (b : BookT) (a kb : Int) (V : List Int) (A : Option Addr) (C : Nat) (w : World) (h : BkS B gb w v b) (hB : B ≤ w.heap.size) (hr : LayV w A V) (hv : V.length = 5) (hm : b.os.length ≤ 20000) :
    Calls Tryz.prog 22 #[.pointer (some ⟨gb, 0, none⟩), .agg #[.int .i64 3, .int .i64 a, .int .i64 kb, .slice A 5 C]] w (LayOut B gb w (layB b ⟨3, a, kb, V⟩)) := by
  obtain ⟨v0, v1, v2, v3, v4, rfl⟩ : ∃ v0 v1 v2 v3 v4, V = [v0, v1, v2, v3, v4] := by
    match V, hv with
    | [v0, v1, v2, v3, v4], _ => exact ⟨v0, v1, v2, v3, v4, rfl⟩
  obtain ⟨vg, vo, rfl, hvc⟩ := val_cells hr (by simp)
  have hA : Below w.heap.size w (w.alloc (.cells #[.int .i64 3, .int .i64 a, .int .i64 kb, .slice (some ⟨vg, vo, none⟩) 5 C] 58)) := (Below.refl _ w).alloc (Nat.le_refl _) _
  have HBK := Lib.hid (h.below hA)
  have HVC := Lib.hid hvc
  have HBB := Lib.hid hB
  have hkA := KeepT.below hA
  obtain ⟨W0, hW0⟩ : ∃ x, w.alloc (.cells #[.int .i64 3, .int .i64 a, .int .i64 kb, .slice (some ⟨vg, vo, none⟩) 5 C] 58) = x := ⟨_, rfl⟩
  have hbx : W0.heap[w.heap.size]? = some (.cells #[.int .i64 3, .int .i64 a, .int .i64 kb, .slice (some ⟨vg, vo, none⟩) 5 C] 58 (0, 0)) := by rw [← hW0]; exact heap_alloc_new w _
  rw [hW0] at HBK hA hkA
  have HW0 := Lib.hid hW0
  have HA := Lib.hid hA
  have HKA := Lib.hid hkA
  have HBX := Lib.hid (fun W (hk : KeepT W0 W) => hk.same _ _ hbx rfl)
  have x0 : W0.cell? ⟨w.heap.size, 0, none⟩ = some (.int .i64 3) := by rw [cell_of_row _ _ _ _ _ _ hbx]; rfl
  have x1 : W0.cell? ⟨w.heap.size, 1, none⟩ = some (.int .i64 a) := by rw [cell_of_row _ _ _ _ _ _ hbx]; rfl
  have x3 : W0.cell? ⟨w.heap.size, 3, none⟩ = some (.slice (some ⟨vg, vo, none⟩) 5 C) := by rw [cell_of_row _ _ _ _ _ _ hbx]; rfl
  obtain ⟨i0, hi0, hz0', hz1', hz2'⟩ := info_parts infoZOpen
  clear h hr hvc hB hA hkA hbx hv
  go_enter Tryz.func22, Tryz.ntmps22
  go_upto_region 1 with (fail)
  clear hW0
  go_quiet (fail)
  go_upto_region 2 with (fail)
  refine at_world (Φ := fun W => KeepT W0 W ∧ Below W0.heap.size W0 W ∧ W.cell? ⟨w.heap.size, 0, none⟩ = some (.int .i64 3)) ⟨KeepT.below (below_drews nq), below_drews nq, x0⟩ ?_
  clear x0 x1 x3
  rintro W1 ⟨hk1, hb1, x0⟩
  have HK1 := Lib.hid hk1
  have HB1 := Lib.hid hb1
  have HBK1 := Lib.hid (HBK.out.below hb1)
  have hown := HBK1.out.o
  have HOWN := Lib.hid hown
  have hec := HBK1.out.box.cells.2.2.1
  have HEC := Lib.hid hec
  have HSZ := Lib.hid (show B ≤ W1.heap.size from Nat.le_trans (Nat.le_trans HBB.out HA.out.size) hb1.size)
  have HGB := Lib.hid (lt_of_blk HBK1.out.box)
  have HVV := Lib.hid (fun W (hk : KeepT W1 W) => HVC.out W ((HKA.out.trans HK1.out).trans hk))
  have HXX := Lib.hid (fun W (hk : KeepT W1 W) => HBX.out W (HK1.out.trans hk))
  clear hk1 hb1 hown hec
  go_upto_region 8 with (fail)
  clear x0
  have HAL := Lib.hid (show Below W1.heap.size W1 (W1.alloc (.cells #[.int .i64 a, .int .i64 v0, .int .i64 v1, .int .i64 v2, .int .i64 v3, .int .i64 v4] 76)).drew from ((Below.refl _ _).alloc (Nat.le_refl _) _).drew)
  refine wp_region_held_drew (S := fun W => KeepT W1 W) (by kernel_rfl) (KeepT.below ((Below.refl _ _).drew)) (fun hS => ?_)
  refine wpAnyH_take (i := 0) (v := .pointer (some ⟨gb, 0, none⟩)) rfl (by kernel_rfl) (by kernel_rfl) (by kernel_rfl) (fun _ _ _ h => h) (Or.inl ⟨by simp [Region.wanted], fun W _ => by go_simp⟩) hS ?_
  simp only [lgT, lgZ, Act.put, lsT, lsZ, lsS]
  refine wpAnyH_take (i := 1) (v := .pointer (some ⟨gb, 0, none⟩)) rfl (by kernel_rfl) (by kernel_rfl) (by kernel_rfl) (fun _ _ _ h => h) (Or.inl ⟨by simp [Region.wanted], fun W _ => by go_simp⟩) hS ?_
  simp only [lgT, lgZ, lgS, Act.put, lsT, lsZ, lsS]
  refine wpAnyH_take (i := 2) (v := .pointer (some ⟨gb, 0, none⟩)) rfl (by kernel_rfl) (by kernel_rfl) (by kernel_rfl) (fun _ _ _ h => h) (Or.inl ⟨by simp [Region.wanted], fun W _ => by go_simp⟩) hS ?_
  simp only [lgT, lgZ, lgS, Act.put, lsT, lsZ, lsS]
  refine wpAnyH_take (i := 3) (v := .pointer (some ⟨gb, 2, none⟩)) rfl (by kernel_rfl) (by kernel_rfl) (by kernel_rfl) (fun _ _ _ h => h) (Or.inl ⟨by simp [Region.wanted], fun W _ => by go_simp⟩) hS ?_
  simp only [lgT, lgZ, lgS, Act.put, lsT, lsZ, lsS]
  refine wpAnyH_take (i := 5) (v := .int .i64 a) rfl (by kernel_rfl) (by kernel_rfl) (by kernel_rfl) (fun _ _ _ h => h) (Or.inl ⟨by simp [Region.wanted], fun W _ => by go_simp⟩) hS ?_
  simp only [lgT, lgZ, lgS, Act.put, lsT, lsZ, lsS]
  refine wpAnyH_take (i := 6) (v := .slice (some ⟨vg, vo, none⟩) 5 C) rfl (by kernel_rfl) (by kernel_rfl) (by kernel_rfl) (fun _ _ _ h => h) (Or.inl ⟨by simp [Region.wanted], fun W _ => by go_simp⟩) hS ?_
  simp only [lgT, lgZ, lgS, Act.put, lsT, lsZ, lsS]
  refine wpAnyH_take (i := 7) (v := .pointer (some ⟨vg, vo, none⟩)) rfl (by kernel_rfl) (by kernel_rfl) (by kernel_rfl) (fun _ _ _ h => h) (Or.inl ⟨by simp [Region.wanted], fun W _ => by go_simp⟩) hS ?_
  simp only [lgT, lgZ, lgS, Act.put, lsT, lsZ, lsS]
  refine wpAnyH_take (i := 8) (v := .int .i64 v0) rfl (by kernel_rfl) (by kernel_rfl) (by kernel_rfl) (fun _ _ _ h => h) (Or.inl ⟨by simp [Region.wanted], fun W hW => by have kz := HVV.out W hW 0 v0 rfl; rw [Nat.add_zero] at kz; go_simp⟩) hS ?_
  simp only [lgT, lgZ, lgS, Act.put, lsT, lsZ, lsS]
  refine wpAnyH_take (i := 9) (v := .slice (some ⟨vg, vo, none⟩) 5 C) rfl (by kernel_rfl) (by kernel_rfl) (by kernel_rfl) (fun _ _ _ h => h) (Or.inl ⟨by simp [Region.wanted], fun W _ => by go_simp⟩) hS ?_
  simp only [lgT, lgZ, lgS, Act.put, lsT, lsZ, lsS]
  refine wpAnyH_take (i := 10) (v := .pointer (some ⟨vg, vo + 1, none⟩)) rfl (by kernel_rfl) (by kernel_rfl) (by kernel_rfl) (fun _ _ _ h => h) (Or.inl ⟨by simp [Region.wanted], fun W _ => by go_simp⟩) hS ?_
  simp only [lgT, lgZ, lgS, Act.put, lsT, lsZ, lsS]
  refine wpAnyH_take (i := 11) (v := .int .i64 v1) rfl (by kernel_rfl) (by kernel_rfl) (by kernel_rfl) (fun _ _ _ h => h) (Or.inl ⟨by simp [Region.wanted], fun W hW => by have kz := HVV.out W hW 1 v1 rfl; go_simp⟩) hS ?_
  simp only [lgT, lgZ, lgS, Act.put, lsT, lsZ, lsS]
  refine wpAnyH_take (i := 12) (v := .slice (some ⟨vg, vo, none⟩) 5 C) rfl (by kernel_rfl) (by kernel_rfl) (by kernel_rfl) (fun _ _ _ h => h) (Or.inl ⟨by simp [Region.wanted], fun W _ => by go_simp⟩) hS ?_
  simp only [lgT, lgZ, lgS, Act.put, lsT, lsZ, lsS]
  refine wpAnyH_take (i := 13) (v := .pointer (some ⟨vg, vo + 2, none⟩)) rfl (by kernel_rfl) (by kernel_rfl) (by kernel_rfl) (fun _ _ _ h => h) (Or.inl ⟨by simp [Region.wanted], fun W _ => by go_simp⟩) hS ?_
  simp only [lgT, lgZ, lgS, Act.put, lsT, lsZ, lsS]
  refine wpAnyH_take (i := 14) (v := .int .i64 v2) rfl (by kernel_rfl) (by kernel_rfl) (by kernel_rfl) (fun _ _ _ h => h) (Or.inl ⟨by simp [Region.wanted], fun W hW => by have kz := HVV.out W hW 2 v2 rfl; go_simp⟩) hS ?_
  simp only [lgT, lgZ, lgS, Act.put, lsT, lsZ, lsS]
  refine wpAnyH_take (i := 15) (v := .slice (some ⟨vg, vo, none⟩) 5 C) rfl (by kernel_rfl) (by kernel_rfl) (by kernel_rfl) (fun _ _ _ h => h) (Or.inl ⟨by simp [Region.wanted], fun W _ => by go_simp⟩) hS ?_
  simp only [lgT, lgZ, lgS, Act.put, lsT, lsZ, lsS]
  refine wpAnyH_take (i := 16) (v := .pointer (some ⟨vg, vo + 3, none⟩)) rfl (by kernel_rfl) (by kernel_rfl) (by kernel_rfl) (fun _ _ _ h => h) (Or.inl ⟨by simp [Region.wanted], fun W _ => by go_simp⟩) hS ?_
  simp only [lgT, lgZ, lgS, Act.put, lsT, lsZ, lsS]
  refine wpAnyH_take (i := 17) (v := .int .i64 v3) rfl (by kernel_rfl) (by kernel_rfl) (by kernel_rfl) (fun _ _ _ h => h) (Or.inl ⟨by simp [Region.wanted], fun W hW => by have kz := HVV.out W hW 3 v3 rfl; go_simp⟩) hS ?_
  simp only [lgT, lgZ, lgS, Act.put, lsT, lsZ, lsS]
  refine wpAnyH_take (i := 18) (v := .slice (some ⟨vg, vo, none⟩) 5 C) rfl (by kernel_rfl) (by kernel_rfl) (by kernel_rfl) (fun _ _ _ h => h) (Or.inl ⟨by simp [Region.wanted], fun W _ => by go_simp⟩) hS ?_
  simp only [lgT, lgZ, lgS, Act.put, lsT, lsZ, lsS]
  refine wpAnyH_take (i := 19) (v := .pointer (some ⟨vg, vo + 4, none⟩)) rfl (by kernel_rfl) (by kernel_rfl) (by kernel_rfl) (fun _ _ _ h => h) (Or.inl ⟨by simp [Region.wanted], fun W _ => by go_simp⟩) hS ?_
  simp only [lgT, lgZ, lgS, Act.put, lsT, lsZ, lsS]
  refine wpAnyH_take (i := 20) (v := .int .i64 v4) rfl (by kernel_rfl) (by kernel_rfl) (by kernel_rfl) (fun _ _ _ h => h) (Or.inl ⟨by simp [Region.wanted], fun W hW => by have kz := HVV.out W hW 4 v4 rfl; go_simp⟩) hS ?_
  simp only [lgT, lgZ, lgS, Act.put, lsT, lsZ, lsS]
  refine wpAnyH_take (i := 21) (v := .agg #[.int .i64 a, .int .i64 v0, .int .i64 v1, .int .i64 v2, .int .i64 v3, .int .i64 v4]) rfl (by kernel_rfl) (by kernel_rfl) (by kernel_rfl) (fun _ _ _ h => h) (Or.inl ⟨by simp [Region.wanted], fun W _ => by go_simp⟩) hS ?_
  simp only [lgT, lgZ, lgS, Act.put, lsT, lsZ, lsS]
  refine wpAnyH_ready (rs := [4, 22]) (by kernel_rfl) (by simp) ?_
  refine AllReadyH.cons rfl (fun KA hKA => ?_) (AllReadyH.cons rfl (fun KA hKA => ?_) AllReadyH.nil)
  · refine wanted_go rfl ?_
    simp only [lgT, lgZ, lgS]
    have ec := HEC.out
    go_wp2
    refine hKA.out _ _ (KeepT.below ((Below.refl _ _).drew)) (fun _ => ?_)
    clear ec
    refine wpAnyH_ready (rs := [22]) (by kernel_rfl) (by simp) ?_
    refine AllReadyH.cons rfl (fun KB hKB => ?_) AllReadyH.nil
    refine wanted_go rfl ?_
    simp only [lgT, lgZ, lgS]
    go_wp2
    refine hKB.out _ _ (KeepT.below HAL.out) (fun _ => ?_)
    obtain ⟨v', w2, hr, hown, hgrow, _⟩ := run_append_own (P := Tryz.prog) (w := (W1.alloc (.cells #[.int .i64 a, .int .i64 v0, .int .i64 v1, .int .i64 v2, .int .i64 v3, .int .i64 v4] 76)).drew) B 24 24 76 i0 _ 6 48 Tryz.underlying24 hi0 hz0' hz1' hz2' rfl (by decide) _ _ _ (own_below' HOWN.out HAL.out) ⟨W1.heap.size, 0, none⟩ 1 1 [.int .i64 a, .int .i64 v0, .int .i64 v1, .int .i64 v2, .int .i64 v3, .int .i64 v4] rfl (fun j u hu => new_cells W1 [.int .i64 a, .int .i64 v0, .int .i64 v1, .int .i64 v2, .int .i64 v3, .int .i64 v4] 76 j u hu) (one_items [a, v0, v1, v2, v3, v4]) (by unfold maxLen; omega) (by omega) (Nat.le_trans HSZ.out HAL.out.size)
    obtain ⟨av, cv, hv⟩ := own_formK hown
    subst hv
    obtain ⟨hN1, hN2, hN3, hN4, hN5⟩ := (HBK1.out.below HAL.out).appOpen (x := [a, v0, v1, v2, v3, v4]) (a := av) (cp := cv) (w2 := w2) hown hgrow (Nat.le_trans HSZ.out HAL.out.size)
    have HKQ := Lib.hid (KeepT.below HAL.out)
    have hfz := free_of_blkN hN4 2
    obtain ⟨uo, hcc⟩ := cell_of_blkN hN4 2 (by simp [cellsB])
    refine wpAnyH_ready (rs := [23]) (by kernel_rfl) (by simp) ?_
    refine AllReadyH.cons rfl (fun KE hKE => ?_) AllReadyH.nil
    refine wanted_go rfl ?_
    simp only [lgT, lgZ, lgS]
    refine Lib.wp_append_run _ _ _ _ _ rfl _ _ rfl rfl _ _ hr ?_
    refine hKE.out _ _ (HKQ.out.trans hN5) (fun hSE => ?_)
    refine wpAnyH_take (i := 24) (v := .pointer (some ⟨gb, 0, none⟩)) rfl (by kernel_rfl) (by kernel_rfl) (by kernel_rfl) (fun _ _ _ h => h) (Or.inl ⟨by simp [Region.wanted], fun W _ => by go_simp⟩) hSE ?_
    simp only [lgT, lgZ, lgS, Act.put, lsT, lsZ, lsS]
    refine wpAnyH_take (i := 25) (v := .pointer (some ⟨gb, 2, none⟩)) rfl (by kernel_rfl) (by kernel_rfl) (by kernel_rfl) (fun _ _ _ h => h) (Or.inl ⟨by simp [Region.wanted], fun W _ => by go_simp⟩) hSE ?_
    simp only [lgT, lgZ, lgS, Act.put, lsT, lsZ, lsS]
    refine wpAnyH_ready (rs := [26]) (by kernel_rfl) (by simp) ?_
    refine AllReadyH.cons rfl (fun KF hKF => ?_) AllReadyH.nil
    refine wanted_go rfl ?_
    simp only [lgT, lgZ, lgS]
    go_wp2
    refine hKF.out _ _ (HKQ.out.trans hN2) (fun _ => ?_)
    refine wpAnyH_done (by kernel_rfl) ?_ _
    have HN1 := Lib.hid hN1
    have HN2 := Lib.hid (HKQ.out.trans hN2)
    have HN3 := Lib.hid ((HAL.out.mono HSZ.out).trans hN3)
    have HN6 := Lib.hid ((((KeepG.below HA.out).trans (KeepG.below HB1.out)).trans (KeepG.below (gb := gb) HAL.out)).trans ((KeepG.grown (own_below' HOWN.out HAL.out) hgrow (by decide)).trans (KeepG.set (i := 2) (.slice av (b.os.length + 1) cv))))
    clear hN1 hN2 hN3 hN4 hN5 hown hgrow hr hfz hcc hSE
    go_wp2
    go_end0
    exact ⟨rfl, ⟨_, HN1.out⟩, (HKA.out.trans HK1.out).trans HN2.out, ((HA.out.mono HBB.out).trans (HB1.out.mono (Nat.le_trans HBB.out HA.out.size))).trans HN3.out, HN6.out⟩
  · refine wanted_go rfl ?_
    simp only [lgT, lgZ, lgS]
    go_wp2
    refine hKA.out _ _ (KeepT.below HAL.out) (fun _ => ?_)
    refine wpAnyH_ready (rs := [4]) (by kernel_rfl) (by simp) ?_
    refine AllReadyH.cons rfl (fun KB hKB => ?_) AllReadyH.nil
    refine wanted_go rfl ?_
    simp only [lgT, lgZ, lgS]
    have ec := (HAL.out.cell (p := ⟨gb, 2, none⟩) HGB.out).trans HEC.out
    go_wp2
    refine hKB.out _ _ (KeepT.below HAL.out) (fun _ => ?_)
    clear ec
    obtain ⟨v', w2, hr, hown, hgrow, _⟩ := run_append_own (P := Tryz.prog) (w := (W1.alloc (.cells #[.int .i64 a, .int .i64 v0, .int .i64 v1, .int .i64 v2, .int .i64 v3, .int .i64 v4] 76)).drew) B 24 24 76 i0 _ 6 48 Tryz.underlying24 hi0 hz0' hz1' hz2' rfl (by decide) _ _ _ (own_below' HOWN.out HAL.out) ⟨W1.heap.size, 0, none⟩ 1 1 [.int .i64 a, .int .i64 v0, .int .i64 v1, .int .i64 v2, .int .i64 v3, .int .i64 v4] rfl (fun j u hu => new_cells W1 [.int .i64 a, .int .i64 v0, .int .i64 v1, .int .i64 v2, .int .i64 v3, .int .i64 v4] 76 j u hu) (one_items [a, v0, v1, v2, v3, v4]) (by unfold maxLen; omega) (by omega) (Nat.le_trans HSZ.out HAL.out.size)
    obtain ⟨av, cv, hv⟩ := own_formK hown
    subst hv
    obtain ⟨hN1, hN2, hN3, hN4, hN5⟩ := (HBK1.out.below HAL.out).appOpen (x := [a, v0, v1, v2, v3, v4]) (a := av) (cp := cv) (w2 := w2) hown hgrow (Nat.le_trans HSZ.out HAL.out.size)
    have HKQ := Lib.hid (KeepT.below HAL.out)
    have hfz := free_of_blkN hN4 2
    obtain ⟨uo, hcc⟩ := cell_of_blkN hN4 2 (by simp [cellsB])
    refine wpAnyH_ready (rs := [23]) (by kernel_rfl) (by simp) ?_
    refine AllReadyH.cons rfl (fun KE hKE => ?_) AllReadyH.nil
    refine wanted_go rfl ?_
    simp only [lgT, lgZ, lgS]
    refine Lib.wp_append_run _ _ _ _ _ rfl _ _ rfl rfl _ _ hr ?_
    refine hKE.out _ _ (HKQ.out.trans hN5) (fun hSE => ?_)
    refine wpAnyH_take (i := 24) (v := .pointer (some ⟨gb, 0, none⟩)) rfl (by kernel_rfl) (by kernel_rfl) (by kernel_rfl) (fun _ _ _ h => h) (Or.inl ⟨by simp [Region.wanted], fun W _ => by go_simp⟩) hSE ?_
    simp only [lgT, lgZ, lgS, Act.put, lsT, lsZ, lsS]
    refine wpAnyH_take (i := 25) (v := .pointer (some ⟨gb, 2, none⟩)) rfl (by kernel_rfl) (by kernel_rfl) (by kernel_rfl) (fun _ _ _ h => h) (Or.inl ⟨by simp [Region.wanted], fun W _ => by go_simp⟩) hSE ?_
    simp only [lgT, lgZ, lgS, Act.put, lsT, lsZ, lsS]
    refine wpAnyH_ready (rs := [26]) (by kernel_rfl) (by simp) ?_
    refine AllReadyH.cons rfl (fun KF hKF => ?_) AllReadyH.nil
    refine wanted_go rfl ?_
    simp only [lgT, lgZ, lgS]
    go_wp2
    refine hKF.out _ _ (HKQ.out.trans hN2) (fun _ => ?_)
    refine wpAnyH_done (by kernel_rfl) ?_ _
    have HN1 := Lib.hid hN1
    have HN2 := Lib.hid (HKQ.out.trans hN2)
    have HN3 := Lib.hid ((HAL.out.mono HSZ.out).trans hN3)
    have HN6 := Lib.hid ((((KeepG.below HA.out).trans (KeepG.below HB1.out)).trans (KeepG.below (gb := gb) HAL.out)).trans ((KeepG.grown (own_below' HOWN.out HAL.out) hgrow (by decide)).trans (KeepG.set (i := 2) (.slice av (b.os.length + 1) cv))))
    clear hN1 hN2 hN3 hN4 hN5 hown hgrow hr hfz hcc hSE
    go_wp2
    go_end0
    exact ⟨rfl, ⟨_, HN1.out⟩, (HKA.out.trans HK1.out).trans HN2.out, ((HA.out.mono HBB.out).trans (HB1.out.mono (Nat.le_trans HBB.out HA.out.size))).trans HN3.out, HN6.out⟩
set_option maxRecDepth 100000 in
set_option maxHeartbeats 8000000 in
theorem layRate [LowB] (B gb : Nat) (v : Slots) (b : BookT) (a kb : Int) (V : List Int) (A : Option Addr) (C : Nat) (w : World) (h : BkS B gb w v b) (hB : B ≤ w.heap.size) (hr : LayV w A V) (hv : V.length = 1) (hm : b.rs.length ≤ 20000) :
    Calls Tryz.prog 22 #[.pointer (some ⟨gb, 0, none⟩), .agg #[.int .i64 4, .int .i64 a, .int .i64 kb, .slice A 1 C]] w (LayOut B gb w (layB b ⟨4, a, kb, V⟩)) := by
  obtain ⟨v0, rfl⟩ : ∃ v0, V = [v0] := by
    match V, hv with
    | [v0], _ => exact ⟨v0, rfl⟩
  obtain ⟨vg, vo, rfl, hvc⟩ := val_cells hr (by simp)
  have hA : Below w.heap.size w (w.alloc (.cells #[.int .i64 4, .int .i64 a, .int .i64 kb, .slice (some ⟨vg, vo, none⟩) 1 C] 58)) := (Below.refl _ w).alloc (Nat.le_refl _) _
  have HBK := Lib.hid (h.below hA)
  have HVC := Lib.hid hvc
  have HBB := Lib.hid hB
  have hkA := KeepT.below hA
  obtain ⟨W0, hW0⟩ : ∃ x, w.alloc (.cells #[.int .i64 4, .int .i64 a, .int .i64 kb, .slice (some ⟨vg, vo, none⟩) 1 C] 58) = x := ⟨_, rfl⟩
  have hbx : W0.heap[w.heap.size]? = some (.cells #[.int .i64 4, .int .i64 a, .int .i64 kb, .slice (some ⟨vg, vo, none⟩) 1 C] 58 (0, 0)) := by rw [← hW0]; exact heap_alloc_new w _
  rw [hW0] at HBK hA hkA
  have HW0 := Lib.hid hW0
  have HA := Lib.hid hA
  have HKA := Lib.hid hkA
  have HBX := Lib.hid (fun W (hk : KeepT W0 W) => hk.same _ _ hbx rfl)
  have x0 : W0.cell? ⟨w.heap.size, 0, none⟩ = some (.int .i64 4) := by rw [cell_of_row _ _ _ _ _ _ hbx]; rfl
  have x1 : W0.cell? ⟨w.heap.size, 1, none⟩ = some (.int .i64 a) := by rw [cell_of_row _ _ _ _ _ _ hbx]; rfl
  have x3 : W0.cell? ⟨w.heap.size, 3, none⟩ = some (.slice (some ⟨vg, vo, none⟩) 1 C) := by rw [cell_of_row _ _ _ _ _ _ hbx]; rfl
  obtain ⟨i0, hi0, hz0', hz1', hz2'⟩ := info_parts infoZRate
  clear h hr hvc hB hA hkA hbx hv
  go_enter Tryz.func22, Tryz.ntmps22
  go_upto_region 1 with (fail)
  clear hW0
  go_quiet (fail)
  go_upto_region 2 with (fail)
  refine at_world (Φ := fun W => KeepT W0 W ∧ Below W0.heap.size W0 W ∧ W.cell? ⟨w.heap.size, 0, none⟩ = some (.int .i64 4)) ⟨KeepT.below (below_drews nq), below_drews nq, x0⟩ ?_
  clear x0 x1 x3
  rintro W1 ⟨hk1, hb1, x0⟩
  have HK1 := Lib.hid hk1
  have HB1 := Lib.hid hb1
  have HBK1 := Lib.hid (HBK.out.below hb1)
  have hown := HBK1.out.r
  have HOWN := Lib.hid hown
  have hec := HBK1.out.box.cells.2.2.2.1
  have HEC := Lib.hid hec
  have HSZ := Lib.hid (show B ≤ W1.heap.size from Nat.le_trans (Nat.le_trans HBB.out HA.out.size) hb1.size)
  have HGB := Lib.hid (lt_of_blk HBK1.out.box)
  have HVV := Lib.hid (fun W (hk : KeepT W1 W) => HVC.out W ((HKA.out.trans HK1.out).trans hk))
  have HXX := Lib.hid (fun W (hk : KeepT W1 W) => HBX.out W (HK1.out.trans hk))
  clear hk1 hb1 hown hec
  go_upto_region 10 with (fail)
  clear x0
  have HAL := Lib.hid (show Below W1.heap.size W1 (W1.alloc (.cells #[.int .i64 a, .int .i64 v0] 50)).drew from ((Below.refl _ _).alloc (Nat.le_refl _) _).drew)
  refine wp_region_held_drew (S := fun W => KeepT W1 W) (by kernel_rfl) (KeepT.below ((Below.refl _ _).drew)) (fun hS => ?_)
  refine wpAnyH_take (i := 0) (v := .pointer (some ⟨gb, 0, none⟩)) rfl (by kernel_rfl) (by kernel_rfl) (by kernel_rfl) (fun _ _ _ h => h) (Or.inl ⟨by simp [Region.wanted], fun W _ => by go_simp⟩) hS ?_
  simp only [lgT, lgZ, Act.put, lsT, lsZ, lsS]
  refine wpAnyH_take (i := 1) (v := .pointer (some ⟨gb, 0, none⟩)) rfl (by kernel_rfl) (by kernel_rfl) (by kernel_rfl) (fun _ _ _ h => h) (Or.inl ⟨by simp [Region.wanted], fun W _ => by go_simp⟩) hS ?_
  simp only [lgT, lgZ, lgS, Act.put, lsT, lsZ, lsS]
  refine wpAnyH_take (i := 2) (v := .pointer (some ⟨gb, 0, none⟩)) rfl (by kernel_rfl) (by kernel_rfl) (by kernel_rfl) (fun _ _ _ h => h) (Or.inl ⟨by simp [Region.wanted], fun W _ => by go_simp⟩) hS ?_
  simp only [lgT, lgZ, lgS, Act.put, lsT, lsZ, lsS]
  refine wpAnyH_take (i := 3) (v := .pointer (some ⟨gb, 3, none⟩)) rfl (by kernel_rfl) (by kernel_rfl) (by kernel_rfl) (fun _ _ _ h => h) (Or.inl ⟨by simp [Region.wanted], fun W _ => by go_simp⟩) hS ?_
  simp only [lgT, lgZ, lgS, Act.put, lsT, lsZ, lsS]
  refine wpAnyH_take (i := 5) (v := .int .i64 a) rfl (by kernel_rfl) (by kernel_rfl) (by kernel_rfl) (fun _ _ _ h => h) (Or.inl ⟨by simp [Region.wanted], fun W _ => by go_simp⟩) hS ?_
  simp only [lgT, lgZ, lgS, Act.put, lsT, lsZ, lsS]
  refine wpAnyH_take (i := 6) (v := .slice (some ⟨vg, vo, none⟩) 1 C) rfl (by kernel_rfl) (by kernel_rfl) (by kernel_rfl) (fun _ _ _ h => h) (Or.inl ⟨by simp [Region.wanted], fun W _ => by go_simp⟩) hS ?_
  simp only [lgT, lgZ, lgS, Act.put, lsT, lsZ, lsS]
  refine wpAnyH_take (i := 7) (v := .pointer (some ⟨vg, vo, none⟩)) rfl (by kernel_rfl) (by kernel_rfl) (by kernel_rfl) (fun _ _ _ h => h) (Or.inl ⟨by simp [Region.wanted], fun W _ => by go_simp⟩) hS ?_
  simp only [lgT, lgZ, lgS, Act.put, lsT, lsZ, lsS]
  refine wpAnyH_take (i := 8) (v := .int .i64 v0) rfl (by kernel_rfl) (by kernel_rfl) (by kernel_rfl) (fun _ _ _ h => h) (Or.inl ⟨by simp [Region.wanted], fun W hW => by have kz := HVV.out W hW 0 v0 rfl; rw [Nat.add_zero] at kz; go_simp⟩) hS ?_
  simp only [lgT, lgZ, lgS, Act.put, lsT, lsZ, lsS]
  refine wpAnyH_take (i := 9) (v := .agg #[.int .i64 a, .int .i64 v0]) rfl (by kernel_rfl) (by kernel_rfl) (by kernel_rfl) (fun _ _ _ h => h) (Or.inl ⟨by simp [Region.wanted], fun W _ => by go_simp⟩) hS ?_
  simp only [lgT, lgZ, lgS, Act.put, lsT, lsZ, lsS]
  refine wpAnyH_ready (rs := [4, 10]) (by kernel_rfl) (by simp) ?_
  refine AllReadyH.cons rfl (fun KA hKA => ?_) (AllReadyH.cons rfl (fun KA hKA => ?_) AllReadyH.nil)
  · refine wanted_go rfl ?_
    simp only [lgT, lgZ, lgS]
    have ec := HEC.out
    go_wp2
    refine hKA.out _ _ (KeepT.below ((Below.refl _ _).drew)) (fun _ => ?_)
    clear ec
    refine wpAnyH_ready (rs := [10]) (by kernel_rfl) (by simp) ?_
    refine AllReadyH.cons rfl (fun KB hKB => ?_) AllReadyH.nil
    refine wanted_go rfl ?_
    simp only [lgT, lgZ, lgS]
    go_wp2
    refine hKB.out _ _ (KeepT.below HAL.out) (fun _ => ?_)
    obtain ⟨v', w2, hr, hown, hgrow, _⟩ := run_append_own (P := Tryz.prog) (w := (W1.alloc (.cells #[.int .i64 a, .int .i64 v0] 50)).drew) B 25 25 50 i0 _ 2 16 Tryz.underlying25 hi0 hz0' hz1' hz2' rfl (by decide) _ _ _ (own_below' HOWN.out HAL.out) ⟨W1.heap.size, 0, none⟩ 1 1 [.int .i64 a, .int .i64 v0] rfl (fun j u hu => new_cells W1 [.int .i64 a, .int .i64 v0] 50 j u hu) (one_items [a, v0]) (by unfold maxLen; omega) (by omega) (Nat.le_trans HSZ.out HAL.out.size)
    obtain ⟨av, cv, hv⟩ := own_formK hown
    subst hv
    obtain ⟨hN1, hN2, hN3, hN4, hN5⟩ := (HBK1.out.below HAL.out).appRate (x := [a, v0]) (a := av) (cp := cv) (w2 := w2) hown hgrow (Nat.le_trans HSZ.out HAL.out.size)
    have HKQ := Lib.hid (KeepT.below HAL.out)
    have hfz := free_of_blkN hN4 3
    obtain ⟨uo, hcc⟩ := cell_of_blkN hN4 3 (by simp [cellsB])
    refine wpAnyH_ready (rs := [11]) (by kernel_rfl) (by simp) ?_
    refine AllReadyH.cons rfl (fun KE hKE => ?_) AllReadyH.nil
    refine wanted_go rfl ?_
    simp only [lgT, lgZ, lgS]
    refine Lib.wp_append_run _ _ _ _ _ rfl _ _ rfl rfl _ _ hr ?_
    refine hKE.out _ _ (HKQ.out.trans hN5) (fun hSE => ?_)
    refine wpAnyH_take (i := 12) (v := .pointer (some ⟨gb, 0, none⟩)) rfl (by kernel_rfl) (by kernel_rfl) (by kernel_rfl) (fun _ _ _ h => h) (Or.inl ⟨by simp [Region.wanted], fun W _ => by go_simp⟩) hSE ?_
    simp only [lgT, lgZ, lgS, Act.put, lsT, lsZ, lsS]
    refine wpAnyH_take (i := 13) (v := .pointer (some ⟨gb, 3, none⟩)) rfl (by kernel_rfl) (by kernel_rfl) (by kernel_rfl) (fun _ _ _ h => h) (Or.inl ⟨by simp [Region.wanted], fun W _ => by go_simp⟩) hSE ?_
    simp only [lgT, lgZ, lgS, Act.put, lsT, lsZ, lsS]
    refine wpAnyH_ready (rs := [14]) (by kernel_rfl) (by simp) ?_
    refine AllReadyH.cons rfl (fun KF hKF => ?_) AllReadyH.nil
    refine wanted_go rfl ?_
    simp only [lgT, lgZ, lgS]
    go_wp2
    refine hKF.out _ _ (HKQ.out.trans hN2) (fun _ => ?_)
    refine wpAnyH_done (by kernel_rfl) ?_ _
    have HN1 := Lib.hid hN1
    have HN2 := Lib.hid (HKQ.out.trans hN2)
    have HN3 := Lib.hid ((HAL.out.mono HSZ.out).trans hN3)
    have HN6 := Lib.hid ((((KeepG.below HA.out).trans (KeepG.below HB1.out)).trans (KeepG.below (gb := gb) HAL.out)).trans ((KeepG.grown (own_below' HOWN.out HAL.out) hgrow (by decide)).trans (KeepG.set (i := 3) (.slice av (b.rs.length + 1) cv))))
    clear hN1 hN2 hN3 hN4 hN5 hown hgrow hr hfz hcc hSE
    go_wp2
    go_end0
    exact ⟨rfl, ⟨_, HN1.out⟩, (HKA.out.trans HK1.out).trans HN2.out, ((HA.out.mono HBB.out).trans (HB1.out.mono (Nat.le_trans HBB.out HA.out.size))).trans HN3.out, HN6.out⟩
  · refine wanted_go rfl ?_
    simp only [lgT, lgZ, lgS]
    go_wp2
    refine hKA.out _ _ (KeepT.below HAL.out) (fun _ => ?_)
    refine wpAnyH_ready (rs := [4]) (by kernel_rfl) (by simp) ?_
    refine AllReadyH.cons rfl (fun KB hKB => ?_) AllReadyH.nil
    refine wanted_go rfl ?_
    simp only [lgT, lgZ, lgS]
    have ec := (HAL.out.cell (p := ⟨gb, 3, none⟩) HGB.out).trans HEC.out
    go_wp2
    refine hKB.out _ _ (KeepT.below HAL.out) (fun _ => ?_)
    clear ec
    obtain ⟨v', w2, hr, hown, hgrow, _⟩ := run_append_own (P := Tryz.prog) (w := (W1.alloc (.cells #[.int .i64 a, .int .i64 v0] 50)).drew) B 25 25 50 i0 _ 2 16 Tryz.underlying25 hi0 hz0' hz1' hz2' rfl (by decide) _ _ _ (own_below' HOWN.out HAL.out) ⟨W1.heap.size, 0, none⟩ 1 1 [.int .i64 a, .int .i64 v0] rfl (fun j u hu => new_cells W1 [.int .i64 a, .int .i64 v0] 50 j u hu) (one_items [a, v0]) (by unfold maxLen; omega) (by omega) (Nat.le_trans HSZ.out HAL.out.size)
    obtain ⟨av, cv, hv⟩ := own_formK hown
    subst hv
    obtain ⟨hN1, hN2, hN3, hN4, hN5⟩ := (HBK1.out.below HAL.out).appRate (x := [a, v0]) (a := av) (cp := cv) (w2 := w2) hown hgrow (Nat.le_trans HSZ.out HAL.out.size)
    have HKQ := Lib.hid (KeepT.below HAL.out)
    have hfz := free_of_blkN hN4 3
    obtain ⟨uo, hcc⟩ := cell_of_blkN hN4 3 (by simp [cellsB])
    refine wpAnyH_ready (rs := [11]) (by kernel_rfl) (by simp) ?_
    refine AllReadyH.cons rfl (fun KE hKE => ?_) AllReadyH.nil
    refine wanted_go rfl ?_
    simp only [lgT, lgZ, lgS]
    refine Lib.wp_append_run _ _ _ _ _ rfl _ _ rfl rfl _ _ hr ?_
    refine hKE.out _ _ (HKQ.out.trans hN5) (fun hSE => ?_)
    refine wpAnyH_take (i := 12) (v := .pointer (some ⟨gb, 0, none⟩)) rfl (by kernel_rfl) (by kernel_rfl) (by kernel_rfl) (fun _ _ _ h => h) (Or.inl ⟨by simp [Region.wanted], fun W _ => by go_simp⟩) hSE ?_
    simp only [lgT, lgZ, lgS, Act.put, lsT, lsZ, lsS]
    refine wpAnyH_take (i := 13) (v := .pointer (some ⟨gb, 3, none⟩)) rfl (by kernel_rfl) (by kernel_rfl) (by kernel_rfl) (fun _ _ _ h => h) (Or.inl ⟨by simp [Region.wanted], fun W _ => by go_simp⟩) hSE ?_
    simp only [lgT, lgZ, lgS, Act.put, lsT, lsZ, lsS]
    refine wpAnyH_ready (rs := [14]) (by kernel_rfl) (by simp) ?_
    refine AllReadyH.cons rfl (fun KF hKF => ?_) AllReadyH.nil
    refine wanted_go rfl ?_
    simp only [lgT, lgZ, lgS]
    go_wp2
    refine hKF.out _ _ (HKQ.out.trans hN2) (fun _ => ?_)
    refine wpAnyH_done (by kernel_rfl) ?_ _
    have HN1 := Lib.hid hN1
    have HN2 := Lib.hid (HKQ.out.trans hN2)
    have HN3 := Lib.hid ((HAL.out.mono HSZ.out).trans hN3)
    have HN6 := Lib.hid ((((KeepG.below HA.out).trans (KeepG.below HB1.out)).trans (KeepG.below (gb := gb) HAL.out)).trans ((KeepG.grown (own_below' HOWN.out HAL.out) hgrow (by decide)).trans (KeepG.set (i := 3) (.slice av (b.rs.length + 1) cv))))
    clear hN1 hN2 hN3 hN4 hN5 hown hgrow hr hfz hcc hSE
    go_wp2
    go_end0
    exact ⟨rfl, ⟨_, HN1.out⟩, (HKA.out.trans HK1.out).trans HN2.out, ((HA.out.mono HBB.out).trans (HB1.out.mono (Nat.le_trans HBB.out HA.out.size))).trans HN3.out, HN6.out⟩
set_option maxRecDepth 100000 in
set_option maxHeartbeats 8000000 in
theorem layCount [LowB] (B gb : Nat) (v : Slots) (b : BookT) (a kb : Int) (V : List Int) (A : Option Addr) (C : Nat) (w : World) (h : BkS B gb w v b) (hB : B ≤ w.heap.size) (hr : LayV w A V) (hv : V.length = 1) :
    Calls Tryz.prog 22 #[.pointer (some ⟨gb, 0, none⟩), .agg #[.int .i64 5, .int .i64 a, .int .i64 kb, .slice A 1 C]] w (LayOut B gb w (layB b ⟨5, a, kb, V⟩)) := by
  obtain ⟨v0, rfl⟩ : ∃ v0, V = [v0] := by
    match V, hv with
    | [v0], _ => exact ⟨v0, rfl⟩
  obtain ⟨vg, vo, rfl, hvc⟩ := val_cells hr (by simp)
  have hA : Below w.heap.size w (w.alloc (.cells #[.int .i64 5, .int .i64 a, .int .i64 kb, .slice (some ⟨vg, vo, none⟩) 1 C] 58)) := (Below.refl _ w).alloc (Nat.le_refl _) _
  have HBK := Lib.hid (h.below hA)
  have HVC := Lib.hid hvc
  have HBB := Lib.hid hB
  have hkA := KeepT.below hA
  obtain ⟨W0, hW0⟩ : ∃ x, w.alloc (.cells #[.int .i64 5, .int .i64 a, .int .i64 kb, .slice (some ⟨vg, vo, none⟩) 1 C] 58) = x := ⟨_, rfl⟩
  have hbx : W0.heap[w.heap.size]? = some (.cells #[.int .i64 5, .int .i64 a, .int .i64 kb, .slice (some ⟨vg, vo, none⟩) 1 C] 58 (0, 0)) := by rw [← hW0]; exact heap_alloc_new w _
  rw [hW0] at HBK hA hkA
  have HW0 := Lib.hid hW0
  have HA := Lib.hid hA
  have HKA := Lib.hid hkA
  have x0 : W0.cell? ⟨w.heap.size, 0, none⟩ = some (.int .i64 5) := by rw [cell_of_row _ _ _ _ _ _ hbx]; rfl
  have x1 : W0.cell? ⟨w.heap.size, 1, none⟩ = some (.int .i64 a) := by rw [cell_of_row _ _ _ _ _ _ hbx]; rfl
  have x3 : W0.cell? ⟨w.heap.size, 3, none⟩ = some (.slice (some ⟨vg, vo, none⟩) 1 C) := by rw [cell_of_row _ _ _ _ _ _ hbx]; rfl
  clear h hr hvc hB hA hkA hbx hv
  go_enter Tryz.func22, Tryz.ntmps22
  go_upto_region 1 with (fail)
  clear hW0
  go_quiet (fail)
  go_upto_region 2 with (fail)
  refine at_world (Φ := fun W => KeepT W0 W ∧ Below W0.heap.size W0 W ∧ W.cell? ⟨w.heap.size, 0, none⟩ = some (.int .i64 5)) ⟨KeepT.below (below_drews nq), below_drews nq, x0⟩ ?_
  clear x0 x1 x3
  rintro W1 ⟨hk1, hb1, x0⟩
  have HK1 := Lib.hid hk1
  have HB1 := Lib.hid hb1
  have HBK1 := Lib.hid (HBK.out.below hb1)
  have hfz := free_of_blkN HBK1.out.box 4
  obtain ⟨uo, hcc⟩ := cell_of_blkN HBK1.out.box 4 (by simp [cellsB])
  have kz := HVC.out W1 (HKA.out.trans hk1) 0 v0 rfl
  rw [Nat.add_zero] at kz
  clear hk1 hb1
  go_wp2
  go_end0
  obtain ⟨h1, h2, h3⟩ := HBK1.out.setCo v0
  exact ⟨rfl, ⟨_, h1⟩, (HKA.out.trans HK1.out).trans h2, ((HA.out.mono HBB.out).trans (HB1.out.mono (Nat.le_trans HBB.out HA.out.size))).trans h3, ((KeepG.below HA.out).trans (KeepG.below HB1.out)).trans (KeepG.set _)⟩
theorem lay29 [LowB] (B gb : Nat) (v : Slots) (b : BookT) (r : RowT) (A : Option Addr) (C : Nat) (w : World) (h : BkS B gb w v b) (hB : B ≤ w.heap.size) (hr : LayV w A r.v) (h1 : 1 ≤ r.l) (h5 : r.l ≤ 5) (hv : r.v.length = allT r.l) (hm : b.hs.length ≤ 20000 ∧ b.ss.length ≤ 20000 ∧ b.os.length ≤ 20000 ∧ b.rs.length ≤ 20000) :
    Calls Tryz.prog 22 #[.pointer (some ⟨gb, 0, none⟩), .agg #[.int .i64 r.l, .int .i64 r.a, .int .i64 r.b, .slice A r.v.length C]] w (LayOut B gb w (layB b r)) := by
  obtain ⟨l, a, kb, V⟩ := r
  dsimp only at hr h1 h5 hv ⊢
  obtain rfl | rfl | rfl | rfl | rfl : l = 1 ∨ l = 2 ∨ l = 3 ∨ l = 4 ∨ l = 5 := by omega
  · have hv : V.length = 3 := hv
    rw [hv]; exact layHolder B gb v b a kb V A C w h hB hr hv hm.1
  · have hv : V.length = 1 := hv
    rw [hv]; exact layStake B gb v b a kb V A C w h hB hr hv hm.2.1
  · have hv : V.length = 5 := hv
    rw [hv]; exact layOpen B gb v b a kb V A C w h hB hr hv hm.2.2.1
  · have hv : V.length = 1 := hv
    rw [hv]; exact layRate B gb v b a kb V A C w h hB hr hv hm.2.2.2
  · have hv : V.length = 1 := hv
    rw [hv]; exact layCount B gb v b a kb V A C w h hB hr hv
end Go.Proofs.YtellifcjamedkaaGreat
