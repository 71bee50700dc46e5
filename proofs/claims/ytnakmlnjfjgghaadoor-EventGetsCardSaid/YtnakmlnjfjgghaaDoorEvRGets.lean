/- Contracts of the document's Get, GetVerdict and GetPair: what of any bytes is a thing's numbers, or the fault. -/
import Derived.Test.YtnakmlnjfjgghaaDoorEvNumbers
import Derived.Test.YtnakmlnjfjgghaaDoorEvGet
namespace Go.Proofs.YtnakmlnjfjgghaaDoor
open Go.RowKit Base

theorem below_cellR {w W : World} {g i : Nat} {v : Value} (hb : Below w.heap.size w W) (hg : g < w.heap.size) (h : w.cell? ⟨g, i, none⟩ = some v) : W.cell? ⟨g, i, none⟩ = some v := below_cell hb hg h
theorem below_rowR {w W : World} {ks : Array Value} (h : Below w.heap.size w W) : Below w.heap.size w (W.setRow w.heap.size ks) := below_row1 h (Nat.le_refl _)

set_option maxRecDepth 100000 in
set_option maxHeartbeats 4000000 in
theorem event32 (g cap : Nat) (b0 b1 b2 b3 b4 b5 b6 : Int) (w : World) (hg : g < w.heap.size)
    (c0 : w.cell? ⟨g, 0, none⟩ = some (.int .i64 b0)) (c1 : w.cell? ⟨g, 1, none⟩ = some (.int .i64 b1)) (c2 : w.cell? ⟨g, 2, none⟩ = some (.int .i64 b2)) (c3 : w.cell? ⟨g, 3, none⟩ = some (.int .i64 b3)) (c4 : w.cell? ⟨g, 4, none⟩ = some (.int .i64 b4)) (c5 : w.cell? ⟨g, 5, none⟩ = some (.int .i64 b5)) (c6 : w.cell? ⟨g, 6, none⟩ = some (.int .i64 b6)) :
    Calls Tryd.prog 32 #[.slice (some ⟨g, 0, none⟩) 7 cap] w fun x w' => x = .returned (.agg #[.int .i64 b0, .int .i64 b1, .int .i64 b2, .int .i64 b3, .int .i64 b4, .int .i64 b5, .int .i64 b6]) ∧ Below w.heap.size w w' := by
  have HG := Lib.hid hg
  have HS := Lib.hid (show Below w.heap.size w (w.alloc (.cells #[Value.int .i64 0, Value.int .i64 0, Value.int .i64 0, Value.int .i64 0, Value.int .i64 0, Value.int .i64 0, Value.int .i64 0] 23)).drew from ((Below.refl _ w).alloc (Nat.le_refl _) _).drew)
  clear hg
  go_enter Tryd.func32, Tryd.ntmps32
  go_wp2
  refine wp_region_held_drew (S := fun W => Below w.heap.size w W) (by kernel_rfl) (HS.out) (fun hS => ?_)
  refine wpAnyH_take (i := 0) (v := .slice (some ⟨g, 0, none⟩) 7 cap) rfl (by kernel_rfl) (by kernel_rfl) (by kernel_rfl) (fun _ _ _ h => h) (Or.inl ⟨by simp [Region.wanted], fun W _ => by go_simp⟩) hS ?_
  simp only [List.getElem_toArray, List.getElem_cons_zero, Act.put, List.setIfInBounds_toArray, List.set_cons_zero, List.set_cons_succ]
  refine wpAnyH_take (i := 1) (v := .pointer (some ⟨g, 0, none⟩)) rfl (by kernel_rfl) (by kernel_rfl) (by kernel_rfl) (fun _ _ _ h => h) (Or.inl ⟨by simp [Region.wanted], fun W _ => by go_simp⟩) hS ?_
  simp only [List.getElem_toArray, List.getElem_cons_zero, List.getElem_cons_succ, Act.put, List.setIfInBounds_toArray, List.set_cons_zero, List.set_cons_succ]
  refine wpAnyH_take (i := 2) (v := .int .i64 b0) rfl (by kernel_rfl) (by kernel_rfl) (by kernel_rfl) (fun _ _ _ h => h) (Or.inl ⟨by simp [Region.wanted], fun W hW => by have c := below_cellR hW HG.out c0; go_simp⟩) hS ?_
  simp only [List.getElem_toArray, List.getElem_cons_zero, List.getElem_cons_succ, Act.put, List.setIfInBounds_toArray, List.set_cons_zero, List.set_cons_succ]
  refine wpAnyH_take (i := 3) (v := .slice (some ⟨g, 0, none⟩) 7 cap) rfl (by kernel_rfl) (by kernel_rfl) (by kernel_rfl) (fun _ _ _ h => h) (Or.inl ⟨by simp [Region.wanted], fun W _ => by go_simp⟩) hS ?_
  simp only [List.getElem_toArray, List.getElem_cons_zero, List.getElem_cons_succ, Act.put, List.setIfInBounds_toArray, List.set_cons_zero, List.set_cons_succ]
  refine wpAnyH_take (i := 4) (v := .pointer (some ⟨g, 1, none⟩)) rfl (by kernel_rfl) (by kernel_rfl) (by kernel_rfl) (fun _ _ _ h => h) (Or.inl ⟨by simp [Region.wanted], fun W _ => by go_simp⟩) hS ?_
  simp only [List.getElem_toArray, List.getElem_cons_zero, List.getElem_cons_succ, Act.put, List.setIfInBounds_toArray, List.set_cons_zero, List.set_cons_succ]
  refine wpAnyH_take (i := 5) (v := .int .i64 b1) rfl (by kernel_rfl) (by kernel_rfl) (by kernel_rfl) (fun _ _ _ h => h) (Or.inl ⟨by simp [Region.wanted], fun W hW => by have c := below_cellR hW HG.out c1; go_simp⟩) hS ?_
  simp only [List.getElem_toArray, List.getElem_cons_zero, List.getElem_cons_succ, Act.put, List.setIfInBounds_toArray, List.set_cons_zero, List.set_cons_succ]
  refine wpAnyH_take (i := 6) (v := .slice (some ⟨g, 0, none⟩) 7 cap) rfl (by kernel_rfl) (by kernel_rfl) (by kernel_rfl) (fun _ _ _ h => h) (Or.inl ⟨by simp [Region.wanted], fun W _ => by go_simp⟩) hS ?_
  simp only [List.getElem_toArray, List.getElem_cons_zero, List.getElem_cons_succ, Act.put, List.setIfInBounds_toArray, List.set_cons_zero, List.set_cons_succ]
  refine wpAnyH_take (i := 7) (v := .pointer (some ⟨g, 2, none⟩)) rfl (by kernel_rfl) (by kernel_rfl) (by kernel_rfl) (fun _ _ _ h => h) (Or.inl ⟨by simp [Region.wanted], fun W _ => by go_simp⟩) hS ?_
  simp only [List.getElem_toArray, List.getElem_cons_zero, List.getElem_cons_succ, Act.put, List.setIfInBounds_toArray, List.set_cons_zero, List.set_cons_succ]
  refine wpAnyH_take (i := 8) (v := .int .i64 b2) rfl (by kernel_rfl) (by kernel_rfl) (by kernel_rfl) (fun _ _ _ h => h) (Or.inl ⟨by simp [Region.wanted], fun W hW => by have c := below_cellR hW HG.out c2; go_simp⟩) hS ?_
  simp only [List.getElem_toArray, List.getElem_cons_zero, List.getElem_cons_succ, Act.put, List.setIfInBounds_toArray, List.set_cons_zero, List.set_cons_succ]
  refine wpAnyH_take (i := 9) (v := .slice (some ⟨g, 0, none⟩) 7 cap) rfl (by kernel_rfl) (by kernel_rfl) (by kernel_rfl) (fun _ _ _ h => h) (Or.inl ⟨by simp [Region.wanted], fun W _ => by go_simp⟩) hS ?_
  simp only [List.getElem_toArray, List.getElem_cons_zero, List.getElem_cons_succ, Act.put, List.setIfInBounds_toArray, List.set_cons_zero, List.set_cons_succ]
  refine wpAnyH_take (i := 10) (v := .pointer (some ⟨g, 3, none⟩)) rfl (by kernel_rfl) (by kernel_rfl) (by kernel_rfl) (fun _ _ _ h => h) (Or.inl ⟨by simp [Region.wanted], fun W _ => by go_simp⟩) hS ?_
  simp only [List.getElem_toArray, List.getElem_cons_zero, List.getElem_cons_succ, Act.put, List.setIfInBounds_toArray, List.set_cons_zero, List.set_cons_succ]
  refine wpAnyH_take (i := 11) (v := .int .i64 b3) rfl (by kernel_rfl) (by kernel_rfl) (by kernel_rfl) (fun _ _ _ h => h) (Or.inl ⟨by simp [Region.wanted], fun W hW => by have c := below_cellR hW HG.out c3; go_simp⟩) hS ?_
  simp only [List.getElem_toArray, List.getElem_cons_zero, List.getElem_cons_succ, Act.put, List.setIfInBounds_toArray, List.set_cons_zero, List.set_cons_succ]
  refine wpAnyH_take (i := 12) (v := .slice (some ⟨g, 0, none⟩) 7 cap) rfl (by kernel_rfl) (by kernel_rfl) (by kernel_rfl) (fun _ _ _ h => h) (Or.inl ⟨by simp [Region.wanted], fun W _ => by go_simp⟩) hS ?_
  simp only [List.getElem_toArray, List.getElem_cons_zero, List.getElem_cons_succ, Act.put, List.setIfInBounds_toArray, List.set_cons_zero, List.set_cons_succ]
  refine wpAnyH_take (i := 13) (v := .pointer (some ⟨g, 4, none⟩)) rfl (by kernel_rfl) (by kernel_rfl) (by kernel_rfl) (fun _ _ _ h => h) (Or.inl ⟨by simp [Region.wanted], fun W _ => by go_simp⟩) hS ?_
  simp only [List.getElem_toArray, List.getElem_cons_zero, List.getElem_cons_succ, Act.put, List.setIfInBounds_toArray, List.set_cons_zero, List.set_cons_succ]
  refine wpAnyH_take (i := 14) (v := .int .i64 b4) rfl (by kernel_rfl) (by kernel_rfl) (by kernel_rfl) (fun _ _ _ h => h) (Or.inl ⟨by simp [Region.wanted], fun W hW => by have c := below_cellR hW HG.out c4; go_simp⟩) hS ?_
  simp only [List.getElem_toArray, List.getElem_cons_zero, List.getElem_cons_succ, Act.put, List.setIfInBounds_toArray, List.set_cons_zero, List.set_cons_succ]
  refine wpAnyH_take (i := 15) (v := .slice (some ⟨g, 0, none⟩) 7 cap) rfl (by kernel_rfl) (by kernel_rfl) (by kernel_rfl) (fun _ _ _ h => h) (Or.inl ⟨by simp [Region.wanted], fun W _ => by go_simp⟩) hS ?_
  simp only [List.getElem_toArray, List.getElem_cons_zero, List.getElem_cons_succ, Act.put, List.setIfInBounds_toArray, List.set_cons_zero, List.set_cons_succ]
  refine wpAnyH_take (i := 16) (v := .pointer (some ⟨g, 5, none⟩)) rfl (by kernel_rfl) (by kernel_rfl) (by kernel_rfl) (fun _ _ _ h => h) (Or.inl ⟨by simp [Region.wanted], fun W _ => by go_simp⟩) hS ?_
  simp only [List.getElem_toArray, List.getElem_cons_zero, List.getElem_cons_succ, Act.put, List.setIfInBounds_toArray, List.set_cons_zero, List.set_cons_succ]
  refine wpAnyH_take (i := 17) (v := .int .i64 b5) rfl (by kernel_rfl) (by kernel_rfl) (by kernel_rfl) (fun _ _ _ h => h) (Or.inl ⟨by simp [Region.wanted], fun W hW => by have c := below_cellR hW HG.out c5; go_simp⟩) hS ?_
  simp only [List.getElem_toArray, List.getElem_cons_zero, List.getElem_cons_succ, Act.put, List.setIfInBounds_toArray, List.set_cons_zero, List.set_cons_succ]
  refine wpAnyH_take (i := 18) (v := .slice (some ⟨g, 0, none⟩) 7 cap) rfl (by kernel_rfl) (by kernel_rfl) (by kernel_rfl) (fun _ _ _ h => h) (Or.inl ⟨by simp [Region.wanted], fun W _ => by go_simp⟩) hS ?_
  simp only [List.getElem_toArray, List.getElem_cons_zero, List.getElem_cons_succ, Act.put, List.setIfInBounds_toArray, List.set_cons_zero, List.set_cons_succ]
  refine wpAnyH_take (i := 19) (v := .pointer (some ⟨g, 6, none⟩)) rfl (by kernel_rfl) (by kernel_rfl) (by kernel_rfl) (fun _ _ _ h => h) (Or.inl ⟨by simp [Region.wanted], fun W _ => by go_simp⟩) hS ?_
  simp only [List.getElem_toArray, List.getElem_cons_zero, List.getElem_cons_succ, Act.put, List.setIfInBounds_toArray, List.set_cons_zero, List.set_cons_succ]
  refine wpAnyH_take (i := 20) (v := .int .i64 b6) rfl (by kernel_rfl) (by kernel_rfl) (by kernel_rfl) (fun _ _ _ h => h) (Or.inl ⟨by simp [Region.wanted], fun W hW => by have c := below_cellR hW HG.out c6; go_simp⟩) hS ?_
  simp only [List.getElem_toArray, List.getElem_cons_zero, List.getElem_cons_succ, Act.put, List.setIfInBounds_toArray, List.set_cons_zero, List.set_cons_succ]
  refine wpAnyH_take (i := 21) (v := .agg #[.int .i64 b0, .int .i64 b1, .int .i64 b2, .int .i64 b3, .int .i64 b4, .int .i64 b5, .int .i64 b6]) rfl (by kernel_rfl) (by kernel_rfl) (by kernel_rfl) (fun _ _ _ h => h) (Or.inl ⟨by simp [Region.wanted], fun W _ => by go_simp⟩) hS ?_
  simp only [List.getElem_toArray, List.getElem_cons_zero, List.getElem_cons_succ, Act.put, List.setIfInBounds_toArray, List.set_cons_zero, List.set_cons_succ]
  refine wpAnyH_ready (rs := [22]) (by kernel_rfl) (by simp) ?_
  refine AllReadyH.cons rfl (fun K1 hK1 => ?_) AllReadyH.nil
  refine wanted_go rfl ?_
  simp only [List.getElem_toArray, List.getElem_cons_zero, List.getElem_cons_succ]
  refine wp_store_row 23 (.tmp 2) (.tmp 24) rfl w.heap.size #[.int .i64 b0, .int .i64 b1, .int .i64 b2, .int .i64 b3, .int .i64 b4, .int .i64 b5, .int .i64 b6] rfl rfl 23 #[Value.int .i64 0, Value.int .i64 0, Value.int .i64 0, Value.int .i64 0, Value.int .i64 0, Value.int .i64 0, Value.int .i64 0] (heap_alloc_new w _) (by kernel_rfl) rfl (rowI_one [b0, b1, b2, b3, b4, b5, b6]) ?_
  refine hK1.out _ _ (below_rowR hS) (fun hS1 => ?_)
  refine wpAnyH_done (by kernel_rfl) ?_ _
  go_wp2
  refine Base.ret_cell rfl rfl rfl (setRow_heap _ _ _ _ _ _ (heap_alloc_new w _)) Tryd.underlying23 rfl (by kernel_rfl) ?_
  exact ⟨rfl, hS1⟩

/-- While a thing is got: the variable of the result, the row of numbers. -/
structure GotS (w : World) (g T n : Nat) (L : List Int) (W : World) : Prop where
  blk : ∃ Z, Z.size = n ∧ W.heap[w.heap.size]? = some (.cells Z T (0, 0))
  lo : Below w.heap.size w W
  cells : ∀ (i : Nat) (b : Int), L[i]? = some b → W.cell? ⟨g, i, none⟩ = some (.int .i64 b)
  gne : w.heap.size < g
  glt : g < W.heap.size
theorem GotS.below {w W W' : World} {g T n : Nat} {L : List Int} (h : GotS w g T n L W) (hb : Below W.heap.size W W') : GotS w g T n L W' := by
  obtain ⟨⟨Z, hZ, hB⟩, h2, h3, h4, h5⟩ := h
  have hl := lt_of_blk hB
  exact ⟨⟨Z, hZ, (hb.block _ hl).trans hB⟩, h2.trans (hb.mono (by omega)), fun i b hi => below_cell hb h5 (h3 i b hi), h4, Nat.lt_of_lt_of_le h5 hb.size⟩
theorem GotS.drew {w W : World} {g T n : Nat} {L : List Int} (h : GotS w g T n L W) : GotS w g T n L W.drew := h.below ((Below.refl _ W).drew)
theorem GotS.store {w W : World} {g T n : Nat} {L : List Int} (h : GotS w g T n L W) (ks : Array Value) (hk : ks.size = n) : GotS w g T n L (W.setRow w.heap.size ks) := by
  obtain ⟨⟨Z, hZ, hB⟩, h2, h3, h4, h5⟩ := h
  exact ⟨⟨ks, hk, setRow_heap _ _ _ _ _ _ hB⟩, below_row1 h2 (Nat.le_refl _), fun i b hi => (cell_setRow_other _ _ _ ⟨g, i, none⟩ (by show g ≠ _; omega)).trans (h3 i b hi), h4, by simpa using h5⟩
theorem own_cap {W : World} {B g n cap : Nat} {e : TypeId} {xs : List Value} (h : W.ownsRow B e 1 (.slice (some ⟨g, 0, none⟩) n cap) n xs) (hn : 1 ≤ n) : n ≤ cap := by
  rcases h.2 with ⟨_, h0⟩ | ⟨g', cap', cur, hv, _, _, h3, _⟩
  · omega
  · simp only [Value.slice.injEq] at hv
    omega
theorem list2 {L : List Int} (h : L.length = 2) : ∃ b0 b1, L = [b0, b1] := by
  match L, h with
  | [b0, b1], _ => exact ⟨_, _, rfl⟩
theorem list7 {L : List Int} (h : L.length = 7) : ∃ b0 b1 b2 b3 b4 b5 b6, L = [b0, b1, b2, b3, b4, b5, b6] := by
  match L, h with
  | [b0, b1, b2, b3, b4, b5, b6], _ => exact ⟨_, _, _, _, _, _, _, rfl⟩
theorem list9 {L : List Int} (h : L.length = 9) : ∃ b0 b1 b2 b3 b4 b5 b6 b7 b8, L = [b0, b1, b2, b3, b4, b5, b6, b7, b8] := by
  match L, h with
  | [b0, b1, b2, b3, b4, b5, b6, b7, b8], _ => exact ⟨_, _, _, _, _, _, _, _, _, rfl⟩
theorem row_cells {W : World} {B g n cap : Nat} {L : List Int} (h : W.ownsRow B 2 1 (.slice (some ⟨g, 0, none⟩) n cap) n (L.map (Value.int .i64))) (hl : L.length = n) : ∀ (i : Nat) (b : Int), L[i]? = some b → W.cell? ⟨g, i, none⟩ = some (.int .i64 b) := by
  intro i b hi
  have hin : i < n := by rw [← hl]; exact (List.getElem?_eq_some_iff.1 hi).1
  rw [h.cellAt i (by omega)]
  simp [hi]

set_option maxRecDepth 100000 in
set_option maxHeartbeats 4000000 in
theorem rget16 (s : ByteArray) (w : World) (hs : s.size ≤ 1000000) :
    Calls Tryd.prog 16 #[.string s] w fun e w' => e = .returned (.tuple #[.agg (rowI (getN 7 s).1), .int .i64 (getN 7 s).2]) ∧ Below w.heap.size w w' := by
  obtain ⟨w0, hw0⟩ : ∃ w0, w0 = w.alloc (.cells #[Value.int .i64 0, Value.int .i64 0, Value.int .i64 0, Value.int .i64 0, Value.int .i64 0, Value.int .i64 0, Value.int .i64 0] 23) := ⟨_, rfl⟩
  have HN := Lib.hid (show w0.heap[w.heap.size]? = some (.cells #[Value.int .i64 0, Value.int .i64 0, Value.int .i64 0, Value.int .i64 0, Value.int .i64 0, Value.int .i64 0, Value.int .i64 0] 23 (0, 0)) by rw [hw0]; exact heap_alloc_new w _)
  have HB := Lib.hid (show Below w.heap.size w w0 by rw [hw0]; exact (Below.refl _ w).alloc (Nat.le_refl _) _)
  have HM := Lib.hid (numbers31 s 7 w0 hs (by omega))
  have HL := Lib.hid (show w.heap.size < w0.heap.size from lt_of_blk HN.out)
  have hl := readN_len 7 s 0
  obtain ⟨q, hq⟩ : ∃ q, readN 7 s 0 = q := ⟨_, rfl⟩
  obtain ⟨e, he⟩ : ∃ e, endF q.2.1 q.2.2 = e := ⟨_, rfl⟩
  have hg : getN 7 s = if e = 0 then (q.1, 0) else (List.replicate 7 0, e) := by unfold getN; rw [hq, he]
  rw [hq, he] at HM
  rw [hq] at hl
  obtain ⟨L, hL⟩ : ∃ L, q.1 = L := ⟨_, rfl⟩
  rw [hL] at HM hg hl
  clear hq he hL hs
  by_cases h0 : e = 0
  · rw [if_pos h0] at hg
    subst h0
    rw [hg]
    simp only
    have hb : ((0 : Int) != 0) = false := rfl
    obtain ⟨b0, b1, b2, b3, b4, b5, b6, rfl⟩ := list7 hl
    clear hg hl
    subst hw0
    go_enter Tryd.func16, Tryd.ntmps16
    go_wp2_with (first
      | (go_at_call 31; refine HM.out.mono ?_; rintro x w1 ⟨⟨v, rfl, ho⟩, hb1⟩; obtain ⟨g, cap, rfl⟩ := own_shape' ho (by omega); have hcap := own_cap ho (by omega); have HB1 := Lib.hid hb1; have HGS := Lib.hid (show GotS w g 23 7 [b0, b1, b2, b3, b4, b5, b6] w1 from ⟨⟨_, rfl, (HB1.out.block _ HL.out).trans HN.out⟩, bt2 HB.out HB1.out, row_cells ho rfl, Nat.lt_of_lt_of_le HL.out (own_block_ge ho g rfl), (ho.lt g rfl).2⟩); clear ho hb1)
      | (go_at_call 32; refine (event32 g cap b0 b1 b2 b3 b4 b5 b6 _ HGS.out.glt (HGS.out.cells 0 _ rfl) (HGS.out.cells 1 _ rfl) (HGS.out.cells 2 _ rfl) (HGS.out.cells 3 _ rfl) (HGS.out.cells 4 _ rfl) (HGS.out.cells 5 _ rfl) (HGS.out.cells 6 _ rfl)).mono ?_; rintro x w2 ⟨rfl, hb2⟩; have HG2 := Lib.hid (HGS.out.below hb2); obtain ⟨Z, hZ, hX⟩ := HG2.out.blk; have HX := Lib.hid hX; have HZ := Lib.hid hZ; clear hb2 hZ hX)
      | (refine wpList_store_row rfl 23 (.tmp 2) (.tmp 16) rfl w.heap.size #[.int .i64 b0, .int .i64 b1, .int .i64 b2, .int .i64 b3, .int .i64 b4, .int .i64 b5, .int .i64 b6] rfl rfl 23 _ HX.out (by kernel_rfl) HZ.out (rowI_one [b0, b1, b2, b3, b4, b5, b6]) ?_))
    refine ret_cell_tmp rfl rfl rfl rfl (setRow_heap _ _ _ _ _ _ HX.out) Tryd.underlying23 rfl (by kernel_rfl) ?_
    exact ⟨rfl, below_row1 HG2.out.lo (Nat.le_refl _)⟩
  · rw [if_neg h0] at hg
    rw [hg]
    simp only
    have hb : (e != 0) = true := by simpa using h0
    clear hg hl h0
    subst hw0
    go_enter Tryd.func16, Tryd.ntmps16
    go_wp2_with (first
      | (go_at_call 31; refine HM.out.mono ?_; rintro x w1 ⟨⟨v, rfl, ho⟩, hb1⟩; obtain ⟨g, cap, rfl⟩ := own_shape' ho (by omega); have HB1 := Lib.hid hb1; have HX := Lib.hid ((HB1.out.block _ HL.out).trans HN.out); clear ho hb1)
      | (refine wpList_store_row rfl 23 (.tmp 2) (.tmp 13) rfl w.heap.size #[Value.int .i64 0, Value.int .i64 0, Value.int .i64 0, Value.int .i64 0, Value.int .i64 0, Value.int .i64 0, Value.int .i64 0] rfl rfl 23 _ HX.out (by kernel_rfl) rfl (rowI_one [0, 0, 0, 0, 0, 0, 0]) ?_))
    refine ret_cell_tmp rfl rfl rfl rfl (setRow_heap _ _ _ _ _ _ HX.out) Tryd.underlying23 rfl (by kernel_rfl) ?_
    exact ⟨rfl, below_row1 (bt2 HB.out HB1.out) (Nat.le_refl _)⟩

set_option maxRecDepth 100000 in
set_option maxHeartbeats 4000000 in
theorem rget17 (s : ByteArray) (w : World) (hs : s.size ≤ 1000000) :
    Calls Tryd.prog 17 #[.string s] w fun e w' => e = .returned (.tuple #[.agg (rowI (getN 2 s).1), .int .i64 (getN 2 s).2]) ∧ Below w.heap.size w w' := by
  obtain ⟨w0, hw0⟩ : ∃ w0, w0 = w.alloc (.cells #[Value.int .i64 0, Value.int .i64 0] 25) := ⟨_, rfl⟩
  have HN := Lib.hid (show w0.heap[w.heap.size]? = some (.cells #[Value.int .i64 0, Value.int .i64 0] 25 (0, 0)) by rw [hw0]; exact heap_alloc_new w _)
  have HB := Lib.hid (show Below w.heap.size w w0 by rw [hw0]; exact (Below.refl _ w).alloc (Nat.le_refl _) _)
  have HM := Lib.hid (numbers31 s 2 w0 hs (by omega))
  have HL := Lib.hid (show w.heap.size < w0.heap.size from lt_of_blk HN.out)
  have hl := readN_len 2 s 0
  obtain ⟨q, hq⟩ : ∃ q, readN 2 s 0 = q := ⟨_, rfl⟩
  obtain ⟨e, he⟩ : ∃ e, endF q.2.1 q.2.2 = e := ⟨_, rfl⟩
  have hg : getN 2 s = if e = 0 then (q.1, 0) else (List.replicate 2 0, e) := by unfold getN; rw [hq, he]
  rw [hq, he] at HM
  rw [hq] at hl
  obtain ⟨L, hL⟩ : ∃ L, q.1 = L := ⟨_, rfl⟩
  rw [hL] at HM hg hl
  clear hq he hL hs
  by_cases h0 : e = 0
  · rw [if_pos h0] at hg
    subst h0
    rw [hg]
    simp only
    have hb : ((0 : Int) != 0) = false := rfl
    obtain ⟨b0, b1, rfl⟩ := list2 hl
    clear hg hl
    subst hw0
    go_enter Tryd.func17, Tryd.ntmps17
    go_wp2_with (go_at_call 31; refine HM.out.mono ?_; rintro x w1 ⟨⟨v, rfl, ho⟩, hb1⟩; obtain ⟨g, cap, rfl⟩ := own_shape' ho (by omega); have hcap := own_cap ho (by omega); have HB1 := Lib.hid hb1; have HGS := Lib.hid (show GotS w g 25 2 [b0, b1] w1 from ⟨⟨_, rfl, (HB1.out.block _ HL.out).trans HN.out⟩, bt2 HB.out HB1.out, row_cells ho rfl, Nat.lt_of_lt_of_le HL.out (own_block_ge ho g rfl), (ho.lt g rfl).2⟩); clear ho hb1)
    have HD := Lib.hid HGS.out.drew
    refine wp_region_held_drew (S := fun W => GotS w g 25 2 [b0, b1] W) (by kernel_rfl) (HD.out) (fun hS => ?_)
    refine wpAnyH_take (i := 0) (v := .slice (some ⟨g, 0, none⟩) 2 cap) rfl (by kernel_rfl) (by kernel_rfl) (by kernel_rfl) (fun _ _ _ h => h) (Or.inl ⟨by simp [Region.wanted], fun W _ => by go_simp⟩) hS ?_
    simp only [List.getElem_toArray, List.getElem_cons_zero, Act.put, List.setIfInBounds_toArray, List.set_cons_zero, List.set_cons_succ]
    refine wpAnyH_take (i := 1) (v := .pointer (some ⟨g, 0, none⟩)) rfl (by kernel_rfl) (by kernel_rfl) (by kernel_rfl) (fun _ _ _ h => h) (Or.inl ⟨by simp [Region.wanted], fun W _ => by go_simp⟩) hS ?_
    simp only [List.getElem_toArray, List.getElem_cons_zero, List.getElem_cons_succ, Act.put, List.setIfInBounds_toArray, List.set_cons_zero, List.set_cons_succ]
    refine wpAnyH_take (i := 2) (v := .int .i64 b0) rfl (by kernel_rfl) (by kernel_rfl) (by kernel_rfl) (fun _ _ _ h => h) (Or.inl ⟨by simp [Region.wanted], fun W hW => by have c := hW.cells 0 _ rfl; go_simp⟩) hS ?_
    simp only [List.getElem_toArray, List.getElem_cons_zero, List.getElem_cons_succ, Act.put, List.setIfInBounds_toArray, List.set_cons_zero, List.set_cons_succ]
    refine wpAnyH_take (i := 3) (v := .slice (some ⟨g, 0, none⟩) 2 cap) rfl (by kernel_rfl) (by kernel_rfl) (by kernel_rfl) (fun _ _ _ h => h) (Or.inl ⟨by simp [Region.wanted], fun W _ => by go_simp⟩) hS ?_
    simp only [List.getElem_toArray, List.getElem_cons_zero, List.getElem_cons_succ, Act.put, List.setIfInBounds_toArray, List.set_cons_zero, List.set_cons_succ]
    refine wpAnyH_take (i := 4) (v := .pointer (some ⟨g, 1, none⟩)) rfl (by kernel_rfl) (by kernel_rfl) (by kernel_rfl) (fun _ _ _ h => h) (Or.inl ⟨by simp [Region.wanted], fun W _ => by go_simp⟩) hS ?_
    simp only [List.getElem_toArray, List.getElem_cons_zero, List.getElem_cons_succ, Act.put, List.setIfInBounds_toArray, List.set_cons_zero, List.set_cons_succ]
    refine wpAnyH_take (i := 5) (v := .int .i64 b1) rfl (by kernel_rfl) (by kernel_rfl) (by kernel_rfl) (fun _ _ _ h => h) (Or.inl ⟨by simp [Region.wanted], fun W hW => by have c := hW.cells 1 _ rfl; go_simp⟩) hS ?_
    simp only [List.getElem_toArray, List.getElem_cons_zero, List.getElem_cons_succ, Act.put, List.setIfInBounds_toArray, List.set_cons_zero, List.set_cons_succ]
    refine wpAnyH_take (i := 6) (v := .agg #[.int .i64 b0, .int .i64 b1]) rfl (by kernel_rfl) (by kernel_rfl) (by kernel_rfl) (fun _ _ _ h => h) (Or.inl ⟨by simp [Region.wanted], fun W _ => by go_simp⟩) hS ?_
    simp only [List.getElem_toArray, List.getElem_cons_zero, List.getElem_cons_succ, Act.put, List.setIfInBounds_toArray, List.set_cons_zero, List.set_cons_succ]
    refine wpAnyH_ready (rs := [7]) (by kernel_rfl) (by simp) ?_
    refine AllReadyH.cons rfl (fun K1 hK1 => ?_) AllReadyH.nil
    refine wanted_go rfl ?_
    simp only [List.getElem_toArray, List.getElem_cons_zero, List.getElem_cons_succ]
    obtain ⟨Z, hZ, hX⟩ := hS.blk; refine wp_store_row 25 (.tmp 2) (.tmp 21) rfl w.heap.size #[.int .i64 b0, .int .i64 b1] rfl rfl 25 _ hX (by kernel_rfl) hZ (rowI_one [b0, b1]) ?_
    refine hK1.out _ _ (hS.store _ rfl) (fun hS1 => ?_)
    refine wpAnyH_take (i := 8) (v := .int .i64 0) rfl (by kernel_rfl) (by kernel_rfl) (by kernel_rfl) (fun _ _ _ h => h) (Or.inl ⟨by simp [Region.wanted], fun W _ => by go_simp⟩) hS1 ?_
    simp only [List.getElem_toArray, List.getElem_cons_zero, List.getElem_cons_succ, Act.put, List.setIfInBounds_toArray, List.set_cons_zero, List.set_cons_succ]
    refine wpAnyH_done (by kernel_rfl) ?_ _
    go_wp2
    refine ret_cell_tmp rfl rfl rfl rfl (setRow_heap _ _ _ _ _ _ hX) Tryd.underlying25 rfl (by kernel_rfl) ?_
    exact ⟨rfl, hS1.lo⟩
  · rw [if_neg h0] at hg
    rw [hg]
    simp only
    have hb : (e != 0) = true := by simpa using h0
    clear hg hl h0
    subst hw0
    go_enter Tryd.func17, Tryd.ntmps17
    go_wp2_with (first
      | (go_at_call 31; refine HM.out.mono ?_; rintro x w1 ⟨⟨v, rfl, ho⟩, hb1⟩; obtain ⟨g, cap, rfl⟩ := own_shape' ho (by omega); have HB1 := Lib.hid hb1; have HX := Lib.hid ((HB1.out.block _ HL.out).trans HN.out); clear ho hb1)
      | (refine wpList_store_row rfl 25 (.tmp 2) (.tmp 13) rfl w.heap.size #[Value.int .i64 0, Value.int .i64 0] rfl rfl 25 _ HX.out (by kernel_rfl) rfl (rowI_one [0, 0]) ?_))
    refine ret_cell_tmp rfl rfl rfl rfl (setRow_heap _ _ _ _ _ _ HX.out) Tryd.underlying25 rfl (by kernel_rfl) ?_
    exact ⟨rfl, below_row1 (bt2 HB.out HB1.out) (Nat.le_refl _)⟩

set_option maxRecDepth 100000 in
set_option maxHeartbeats 4000000 in
theorem rget18 (s : ByteArray) (w : World) (hs : s.size ≤ 1000000) :
    Calls Tryd.prog 18 #[.string s] w fun e w' => e = .returned (.tuple #[.agg (rowI (getN 9 s).1), .int .i64 (getN 9 s).2]) ∧ Below w.heap.size w w' := by
  obtain ⟨w0, hw0⟩ : ∃ w0, w0 = w.alloc (.cells #[Value.int .i64 0, Value.int .i64 0, Value.int .i64 0, Value.int .i64 0, Value.int .i64 0, Value.int .i64 0, Value.int .i64 0, Value.int .i64 0, Value.int .i64 0] 27) := ⟨_, rfl⟩
  have HN := Lib.hid (show w0.heap[w.heap.size]? = some (.cells #[Value.int .i64 0, Value.int .i64 0, Value.int .i64 0, Value.int .i64 0, Value.int .i64 0, Value.int .i64 0, Value.int .i64 0, Value.int .i64 0, Value.int .i64 0] 27 (0, 0)) by rw [hw0]; exact heap_alloc_new w _)
  have HB := Lib.hid (show Below w.heap.size w w0 by rw [hw0]; exact (Below.refl _ w).alloc (Nat.le_refl _) _)
  have HM := Lib.hid (numbers31 s 9 w0 hs (by omega))
  have HL := Lib.hid (show w.heap.size < w0.heap.size from lt_of_blk HN.out)
  have hl := readN_len 9 s 0
  obtain ⟨q, hq⟩ : ∃ q, readN 9 s 0 = q := ⟨_, rfl⟩
  obtain ⟨e, he⟩ : ∃ e, endF q.2.1 q.2.2 = e := ⟨_, rfl⟩
  have hg : getN 9 s = if e = 0 then (q.1, 0) else (List.replicate 9 0, e) := by unfold getN; rw [hq, he]
  rw [hq, he] at HM
  rw [hq] at hl
  obtain ⟨L, hL⟩ : ∃ L, q.1 = L := ⟨_, rfl⟩
  rw [hL] at HM hg hl
  clear hq he hL hs
  by_cases h0 : e = 0
  · rw [if_pos h0] at hg
    subst h0
    rw [hg]
    simp only
    have hb : ((0 : Int) != 0) = false := rfl
    obtain ⟨b0, b1, b2, b3, b4, b5, b6, b7, b8, rfl⟩ := list9 hl
    clear hg hl
    subst hw0
    go_enter Tryd.func18, Tryd.ntmps18
    go_wp2_with (go_at_call 31; refine HM.out.mono ?_; rintro x w1 ⟨⟨v, rfl, ho⟩, hb1⟩; obtain ⟨g, cap, rfl⟩ := own_shape' ho (by omega); have hcap := own_cap ho (by omega); have HB1 := Lib.hid hb1; have HGS := Lib.hid (show GotS w g 27 9 [b0, b1, b2, b3, b4, b5, b6, b7, b8] w1 from ⟨⟨_, rfl, (HB1.out.block _ HL.out).trans HN.out⟩, bt2 HB.out HB1.out, row_cells ho rfl, Nat.lt_of_lt_of_le HL.out (own_block_ge ho g rfl), (ho.lt g rfl).2⟩); clear ho hb1)
    have HD := Lib.hid HGS.out.drew
    refine wp_region_held_drew (S := fun W => GotS w g 27 9 [b0, b1, b2, b3, b4, b5, b6, b7, b8] W) (by kernel_rfl) (HD.out) (fun hS => ?_)
    refine wpAnyH_take (i := 0) (v := .slice (some ⟨g, 0, none⟩) 9 cap) rfl (by kernel_rfl) (by kernel_rfl) (by kernel_rfl) (fun _ _ _ h => h) (Or.inl ⟨by simp [Region.wanted], fun W _ => by go_simp⟩) hS ?_
    simp only [List.getElem_toArray, List.getElem_cons_zero, Act.put, List.setIfInBounds_toArray, List.set_cons_zero, List.set_cons_succ]
    refine wpAnyH_take (i := 1) (v := .slice (some ⟨g, 0, none⟩) 7 cap) rfl (by kernel_rfl) (by kernel_rfl) (by kernel_rfl) (fun _ _ _ h => h) (Or.inl ⟨by simp [Region.wanted], fun W _ => by go_simp; omega⟩) hS ?_
    simp only [List.getElem_toArray, List.getElem_cons_zero, List.getElem_cons_succ, Act.put, List.setIfInBounds_toArray, List.set_cons_zero, List.set_cons_succ]
    refine wpAnyH_take (i := 3) (v := .slice (some ⟨g, 0, none⟩) 9 cap) rfl (by kernel_rfl) (by kernel_rfl) (by kernel_rfl) (fun _ _ _ h => h) (Or.inl ⟨by simp [Region.wanted], fun W _ => by go_simp⟩) hS ?_
    simp only [List.getElem_toArray, List.getElem_cons_zero, List.getElem_cons_succ, Act.put, List.setIfInBounds_toArray, List.set_cons_zero, List.set_cons_succ]
    refine wpAnyH_take (i := 4) (v := .pointer (some ⟨g, 7, none⟩)) rfl (by kernel_rfl) (by kernel_rfl) (by kernel_rfl) (fun _ _ _ h => h) (Or.inl ⟨by simp [Region.wanted], fun W _ => by go_simp⟩) hS ?_
    simp only [List.getElem_toArray, List.getElem_cons_zero, List.getElem_cons_succ, Act.put, List.setIfInBounds_toArray, List.set_cons_zero, List.set_cons_succ]
    refine wpAnyH_take (i := 5) (v := .int .i64 b7) rfl (by kernel_rfl) (by kernel_rfl) (by kernel_rfl) (fun _ _ _ h => h) (Or.inl ⟨by simp [Region.wanted], fun W hW => by have c := hW.cells 7 _ rfl; go_simp⟩) hS ?_
    simp only [List.getElem_toArray, List.getElem_cons_zero, List.getElem_cons_succ, Act.put, List.setIfInBounds_toArray, List.set_cons_zero, List.set_cons_succ]
    refine wpAnyH_take (i := 6) (v := .slice (some ⟨g, 0, none⟩) 9 cap) rfl (by kernel_rfl) (by kernel_rfl) (by kernel_rfl) (fun _ _ _ h => h) (Or.inl ⟨by simp [Region.wanted], fun W _ => by go_simp⟩) hS ?_
    simp only [List.getElem_toArray, List.getElem_cons_zero, List.getElem_cons_succ, Act.put, List.setIfInBounds_toArray, List.set_cons_zero, List.set_cons_succ]
    refine wpAnyH_take (i := 7) (v := .pointer (some ⟨g, 8, none⟩)) rfl (by kernel_rfl) (by kernel_rfl) (by kernel_rfl) (fun _ _ _ h => h) (Or.inl ⟨by simp [Region.wanted], fun W _ => by go_simp⟩) hS ?_
    simp only [List.getElem_toArray, List.getElem_cons_zero, List.getElem_cons_succ, Act.put, List.setIfInBounds_toArray, List.set_cons_zero, List.set_cons_succ]
    refine wpAnyH_take (i := 8) (v := .int .i64 b8) rfl (by kernel_rfl) (by kernel_rfl) (by kernel_rfl) (fun _ _ _ h => h) (Or.inl ⟨by simp [Region.wanted], fun W hW => by have c := hW.cells 8 _ rfl; go_simp⟩) hS ?_
    simp only [List.getElem_toArray, List.getElem_cons_zero, List.getElem_cons_succ, Act.put, List.setIfInBounds_toArray, List.set_cons_zero, List.set_cons_succ]
    refine wpAnyH_take (i := 9) (v := .agg #[.int .i64 b7, .int .i64 b8]) rfl (by kernel_rfl) (by kernel_rfl) (by kernel_rfl) (fun _ _ _ h => h) (Or.inl ⟨by simp [Region.wanted], fun W _ => by go_simp⟩) hS ?_
    simp only [List.getElem_toArray, List.getElem_cons_zero, List.getElem_cons_succ, Act.put, List.setIfInBounds_toArray, List.set_cons_zero, List.set_cons_succ]
    refine wpAnyH_ready (rs := [2]) (by kernel_rfl) (by simp) ?_
    refine AllReadyH.cons rfl (fun K1 hK1 => ?_) AllReadyH.nil
    refine wanted_go rfl ?_
    simp only [List.getElem_toArray, List.getElem_cons_zero, List.getElem_cons_succ]
    go_wp2_with (go_at_call 32; refine (event32 g cap b0 b1 b2 b3 b4 b5 b6 _ hS.glt (hS.cells 0 _ rfl) (hS.cells 1 _ rfl) (hS.cells 2 _ rfl) (hS.cells 3 _ rfl) (hS.cells 4 _ rfl) (hS.cells 5 _ rfl) (hS.cells 6 _ rfl)).mono ?_; rintro x w2 ⟨rfl, hb2⟩; have HB2 := Lib.hid hb2; clear hb2)
    refine hK1.out _ _ (hS.below HB2.out) (fun hS1 => ?_)
    refine wpAnyH_take (i := 10) (v := .agg #[.int .i64 b0, .int .i64 b1, .int .i64 b2, .int .i64 b3, .int .i64 b4, .int .i64 b5, .int .i64 b6, .int .i64 b7, .int .i64 b8]) rfl (by kernel_rfl) (by kernel_rfl) (by kernel_rfl) (fun _ _ _ h => h) (Or.inl ⟨by simp [Region.wanted], fun W _ => by go_simp⟩) hS1 ?_
    simp only [List.getElem_toArray, List.getElem_cons_zero, List.getElem_cons_succ, Act.put, List.setIfInBounds_toArray, List.set_cons_zero, List.set_cons_succ]
    refine wpAnyH_ready (rs := [11]) (by kernel_rfl) (by simp) ?_
    refine AllReadyH.cons rfl (fun K2 hK2 => ?_) AllReadyH.nil
    refine wanted_go rfl ?_
    simp only [List.getElem_toArray, List.getElem_cons_zero, List.getElem_cons_succ]
    obtain ⟨Z, hZ, hX⟩ := hS1.blk; refine wp_store_row 27 (.tmp 2) (.tmp 25) rfl w.heap.size #[.int .i64 b0, .int .i64 b1, .int .i64 b2, .int .i64 b3, .int .i64 b4, .int .i64 b5, .int .i64 b6, .int .i64 b7, .int .i64 b8] rfl rfl 27 _ hX (by kernel_rfl) hZ (rowI_one [b0, b1, b2, b3, b4, b5, b6, b7, b8]) ?_
    refine hK2.out _ _ (hS1.store _ rfl) (fun hS2 => ?_)
    refine wpAnyH_take (i := 12) (v := .int .i64 0) rfl (by kernel_rfl) (by kernel_rfl) (by kernel_rfl) (fun _ _ _ h => h) (Or.inl ⟨by simp [Region.wanted], fun W _ => by go_simp⟩) hS2 ?_
    simp only [List.getElem_toArray, List.getElem_cons_zero, List.getElem_cons_succ, Act.put, List.setIfInBounds_toArray, List.set_cons_zero, List.set_cons_succ]
    refine wpAnyH_done (by kernel_rfl) ?_ _
    go_wp2
    refine ret_cell_tmp rfl rfl rfl rfl (setRow_heap _ _ _ _ _ _ hX) Tryd.underlying27 rfl (by kernel_rfl) ?_
    exact ⟨rfl, hS2.lo⟩
  · rw [if_neg h0] at hg
    rw [hg]
    simp only
    have hb : (e != 0) = true := by simpa using h0
    clear hg hl h0
    subst hw0
    go_enter Tryd.func18, Tryd.ntmps18
    go_wp2_with (first
      | (go_at_call 31; refine HM.out.mono ?_; rintro x w1 ⟨⟨v, rfl, ho⟩, hb1⟩; obtain ⟨g, cap, rfl⟩ := own_shape' ho (by omega); have HB1 := Lib.hid hb1; have HX := Lib.hid ((HB1.out.block _ HL.out).trans HN.out); clear ho hb1)
      | (refine wpList_store_row rfl 27 (.tmp 2) (.tmp 13) rfl w.heap.size #[Value.int .i64 0, Value.int .i64 0, Value.int .i64 0, Value.int .i64 0, Value.int .i64 0, Value.int .i64 0, Value.int .i64 0, Value.int .i64 0, Value.int .i64 0] rfl rfl 27 _ HX.out (by kernel_rfl) rfl (rowI_one [0, 0, 0, 0, 0, 0, 0, 0, 0]) ?_))
    refine ret_cell_tmp rfl rfl rfl rfl (setRow_heap _ _ _ _ _ _ HX.out) Tryd.underlying27 rfl (by kernel_rfl) ?_
    exact ⟨rfl, below_row1 (bt2 HB.out HB1.out) (Nat.le_refl _)⟩
end Go.Proofs.YtnakmlnjfjgghaaDoor
