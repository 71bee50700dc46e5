/- The document's set of an order, of a stake: the contracts. -/
import Derived.Test.YtellifcjamedkaaGreatDfSetB
namespace Go.Proofs.YtellifcjamedkaaGreat
open Go.RowKit Base Base2
open List renaming getElem_toArray → lgT, getElem_cons_zero → lgZ, getElem_cons_succ → lgS, setIfInBounds_toArray → lsT, set_cons_zero → lsZ, set_cons_succ → lsS
theorem infoI64S : (Tryz.prog.info? 2).map (fun i => (i.zero, i.size, i.bytes)) = some (some (.int .i64 0), 1, 8) := by kernel_rfl
theorem make5 (W : World) : (Instr.makeSlice 41 (.int .i64 5) (.int .i64 5)).run Tryz.prog W = .ok (.slice (some ⟨W.heap.size, 0, none⟩) 5 5) (W.alloc (.cells #[.int .i64 0, .int .i64 0, .int .i64 0, .int .i64 0, .int .i64 0] 2)) := by
  obtain ⟨i0, hi, hz0, hz1, hz2⟩ := info_parts infoI64S
  have := run_make (P := Tryz.prog) W 41 2 i0 (.int .i64 0) Tryz.underlying41 hi hz0 .i64 .i64 5 5 (by omega) (by omega) (by rw [hz2]; omega) (by omega)
  rw [this, hz1]
  have e : madeCells (Value.int IntKind.i64 0).cells (Int.toNat 5 * 1) = #[.int .i64 0, .int .i64 0, .int .i64 0, .int .i64 0, .int .i64 0] := by
    show madeCells #[Value.int IntKind.i64 0] 5 = _
    unfold madeCells
    apply Array.ext'
    simp [List.range_succ]
  rw [e]
  rfl
set_option maxRecDepth 100000 in
set_option maxHeartbeats 16000000 in
theorem set_3n (v : Slots) (b : BookT) (A1 A2 : Option Addr) (C1 C2 nx : Nat) (xa xb : Int) (xv : List Int) (w : World) (hb : BookIn w v b) (hk : BookOk 900 b) :
    Calls Tryz.prog 35 #[.agg (cellsB v b), .agg #[.int .i64 3, .int .i64 xa, .int .i64 xb, .slice A1 nx C1, .slice A2 0 C2]] w (BookAns w (setChT b ⟨3, xa, xb, xv, []⟩)) := by
  obtain ⟨XC, hXC⟩ : ∃ x : Array Value, x = #[.int .i64 3, .int .i64 xa, .int .i64 xb, .slice A1 nx C1, .slice A2 0 C2] := ⟨_, rfl⟩
  obtain ⟨W0, hW0⟩ : ∃ x, ((w.alloc (.cells (cellsB v b) 27)).alloc (.cells #[.int .i64 3, .int .i64 xa, .int .i64 xb, .slice A1 nx C1, .slice A2 0 C2] 43)).alloc (.cells #[.slice none 0 0, .slice none 0 0, .slice none 0 0, .slice none 0 0, .int .i64 0] 27) = x := ⟨_, rfl⟩
  have hA : Below w.heap.size w W0 := by rw [← hW0]; exact (((Below.refl _ w).alloc (Nat.le_refl _) _).alloc (by simp) _).alloc (by simp; omega) _
  have hN := three_new (W := w) (O := .cells (cellsB v b) 27) (P := .cells #[.int .i64 3, .int .i64 xa, .int .i64 xb, .slice A1 nx C1, .slice A2 0 C2] 43) (S := (.cells #[.slice none 0 0, .slice none 0 0, .slice none 0 0, .slice none 0 0, .int .i64 0] 27))
  rw [hW0] at hN
  have HS := Lib.hid (show SetS w XC v b W0 from ⟨hN.1, by rw [hXC]; exact hN.2.1, hN.2.2, hA, hb.below hA⟩)
  have HXC := Lib.hid hXC
  have HK := Lib.hid hk
  have xc := fun (W : World) (h : SetS w XC v b W) (i : Nat) => (cell_of_row _ _ i _ _ _ h.ch).trans (by rw [hXC] : XC[i]? = (#[.int .i64 3, .int .i64 xa, .int .i64 xb, .slice A1 nx C1, .slice A2 0 C2] : Array Value)[i]?)
  have HXX := Lib.hid (fun (v' : Slots) (b' : BookT) (W : World) (h : SetS w XC v' b' W) (i : Nat) => (cell_of_row _ _ i _ _ _ h.ch).trans (by rw [hXC] : XC[i]? = (#[.int .i64 3, .int .i64 xa, .int .i64 xb, .slice A1 nx C1, .slice A2 0 C2] : Array Value)[i]?))
  have b0 := HS.out.bx.cells.1
  have b1 := HS.out.bx.cells.2.1
  have b2 := HS.out.bx.cells.2.2.1
  have b3 := HS.out.bx.cells.2.2.2.1
  have b4 := HS.out.bx.cells.2.2.2.2
  have x0 := xc W0 HS.out 0
  have x1 := xc W0 HS.out 1
  have x2 := xc W0 HS.out 2
  have x4 := xc W0 HS.out 4
  clear xc
  clear hb hk hXC hA hN
  obtain ⟨CB, hCB⟩ : ∃ x, cellsB v b = x := ⟨_, rfl⟩
  have HCB := Lib.hid hCB
  rw [hCB] at hW0 ⊢
  clear hCB
  have hmk := make5
  go_enter Tryz.func35, Tryz.ntmps35
  go_upto_region 4 with (fail)
  refine at_world (Φ := fun W => SetS w XC v b W ∧ W.heap[W0.heap.size]? = some (.cells #[.int .i64 0, .int .i64 0, .int .i64 0, .int .i64 0, .int .i64 0] 2 (0, 0)) ∧ Below W0.heap.size W0 W) ⟨HS.out.below ((Below.refl _ _).alloc (Nat.le_refl _) _), heap_alloc_new W0 _, (Below.refl _ _).alloc (Nat.le_refl _) _⟩ ?_
  rintro W1 ⟨hs1, hzz, hb01⟩
  have HS1 := Lib.hid hs1
  have HZZ := Lib.hid hzz
  have hzn : w.heap.size ≠ W0.heap.size := by have := HS.out.bx; have := lt_of_blk this; omega
  have HZN := Lib.hid hzn
  have HYZ := Lib.hid (fun (W1' W : World) (h1 : W1'.heap[W0.heap.size]? = some (.cells #[.int .i64 0, .int .i64 0, .int .i64 0, .int .i64 0, .int .i64 0] 2 (0, 0))) (h : FrX w.heap.size W1' W) (i : Nat) => (cell_of_row _ _ i _ _ _ (h.same _ _ (Ne.symm HZN.out) h1) : W.cell? ⟨W0.heap.size, i, none⟩ = (#[.int .i64 0, .int .i64 0, .int .i64 0, .int .i64 0, .int .i64 0] : Array Value)[i]?))
  clear hs1 hzz hb01 hzn hmk hW0 b0 b1 b2 b3 b4 x0 x1 x2 x4
  generalize W0.heap.size = zg at *
  have b0 := HS1.out.bx.cells.1
  have b1 := HS1.out.bx.cells.2.1
  have b2 := HS1.out.bx.cells.2.2.1
  have b3 := HS1.out.bx.cells.2.2.2.1
  have b4 := HS1.out.bx.cells.2.2.2.2
  have x0 := HXX.out _ _ _ HS1.out 0
  have x1 := HXX.out _ _ _ HS1.out 1
  have x2 := HXX.out _ _ _ HS1.out 2
  have x4 := HXX.out _ _ _ HS1.out 4
  go_upto_region 23 with (fail)
  clear b0 b1 b2 b3 b4 x0 x1 x2 x4
  have HCX := Lib.hid (fun W (h : FrX w.heap.size W1 W) (i : Nat) => (cell_of_row _ _ i _ _ _ (h.same _ _ (by omega) HS1.out.ch)).trans (by rw [HXC.out] : XC[i]? = (#[.int .i64 3, .int .i64 xa, .int .i64 xb, .slice A1 nx C1, .slice A2 0 C2] : Array Value)[i]?))
  have HYX := Lib.hid (fun W (h : FrX w.heap.size W1 W) => HYZ.out W1 W HZZ.out h)
  have HCT := Lib.hid (fun W (h : Below W1.heap.size W1 W) => setopen29 v b xa 0 0 0 0 0 W (HS1.out.inn.below h) (HK.out.os.le (by omega)))
  have hlk : LenB (setOpenT b [xa, 0, 0, 0, 0, 0]) := len_open (len_ok HK.out) rfl
  go_upto_region 23 with (fail)
  refine wp_region_held_drew (S := fun W => FrX w.heap.size W1 W) (by kernel_rfl) (FrX.below ((Below.refl _ _).drew)) (fun hS => ?_)
  refine wpAnyH_take (i := 1) (v := .pointer (some ⟨w.heap.size + 1, 1, none⟩)) rfl (by kernel_rfl) (by kernel_rfl) (by kernel_rfl) (fun _ _ _ h => h) (Or.inl ⟨by simp [Region.wanted], fun W _ => by go_simp⟩) hS ?_
  simp only [lgT, lgZ, lgS, Act.put, lsT, lsZ, lsS]
  refine wpAnyH_take (i := 2) (v := .int .i64 xa) rfl (by kernel_rfl) (by kernel_rfl) (by kernel_rfl) (fun _ _ _ h => h) (Or.inl ⟨by simp [Region.wanted], fun W hW => by have kc := HCX.out W hW 1; go_simp⟩) hS ?_
  simp only [lgT, lgZ, lgS, Act.put, lsT, lsZ, lsS]
  refine wpAnyH_take (i := 3) (v := .slice (some ⟨zg, 0, none⟩) 5 5) rfl (by kernel_rfl) (by kernel_rfl) (by kernel_rfl) (fun _ _ _ h => h) (Or.inl ⟨by simp [Region.wanted], fun W _ => by go_simp⟩) hS ?_
  simp only [lgT, lgZ, lgS, Act.put, lsT, lsZ, lsS]
  refine wpAnyH_take (i := 4) (v := .pointer (some ⟨zg, 0, none⟩)) rfl (by kernel_rfl) (by kernel_rfl) (by kernel_rfl) (fun _ _ _ h => h) (Or.inl ⟨by simp [Region.wanted], fun W _ => by go_simp⟩) hS ?_
  simp only [lgT, lgZ, lgS, Act.put, lsT, lsZ, lsS]
  refine wpAnyH_take (i := 5) (v := .int .i64 0) rfl (by kernel_rfl) (by kernel_rfl) (by kernel_rfl) (fun _ _ _ h => h) (Or.inl ⟨by simp [Region.wanted], fun W hW => by have kz := HYX.out W hW 0; go_simp⟩) hS ?_
  simp only [lgT, lgZ, lgS, Act.put, lsT, lsZ, lsS]
  refine wpAnyH_take (i := 6) (v := .slice (some ⟨zg, 0, none⟩) 5 5) rfl (by kernel_rfl) (by kernel_rfl) (by kernel_rfl) (fun _ _ _ h => h) (Or.inl ⟨by simp [Region.wanted], fun W _ => by go_simp⟩) hS ?_
  simp only [lgT, lgZ, lgS, Act.put, lsT, lsZ, lsS]
  refine wpAnyH_take (i := 7) (v := .pointer (some ⟨zg, 1, none⟩)) rfl (by kernel_rfl) (by kernel_rfl) (by kernel_rfl) (fun _ _ _ h => h) (Or.inl ⟨by simp [Region.wanted], fun W _ => by go_simp⟩) hS ?_
  simp only [lgT, lgZ, lgS, Act.put, lsT, lsZ, lsS]
  refine wpAnyH_take (i := 8) (v := .int .i64 0) rfl (by kernel_rfl) (by kernel_rfl) (by kernel_rfl) (fun _ _ _ h => h) (Or.inl ⟨by simp [Region.wanted], fun W hW => by have kz := HYX.out W hW 1; go_simp⟩) hS ?_
  simp only [lgT, lgZ, lgS, Act.put, lsT, lsZ, lsS]
  refine wpAnyH_take (i := 9) (v := .slice (some ⟨zg, 0, none⟩) 5 5) rfl (by kernel_rfl) (by kernel_rfl) (by kernel_rfl) (fun _ _ _ h => h) (Or.inl ⟨by simp [Region.wanted], fun W _ => by go_simp⟩) hS ?_
  simp only [lgT, lgZ, lgS, Act.put, lsT, lsZ, lsS]
  refine wpAnyH_take (i := 10) (v := .pointer (some ⟨zg, 2, none⟩)) rfl (by kernel_rfl) (by kernel_rfl) (by kernel_rfl) (fun _ _ _ h => h) (Or.inl ⟨by simp [Region.wanted], fun W _ => by go_simp⟩) hS ?_
  simp only [lgT, lgZ, lgS, Act.put, lsT, lsZ, lsS]
  refine wpAnyH_take (i := 11) (v := .int .i64 0) rfl (by kernel_rfl) (by kernel_rfl) (by kernel_rfl) (fun _ _ _ h => h) (Or.inl ⟨by simp [Region.wanted], fun W hW => by have kz := HYX.out W hW 2; go_simp⟩) hS ?_
  simp only [lgT, lgZ, lgS, Act.put, lsT, lsZ, lsS]
  refine wpAnyH_take (i := 12) (v := .slice (some ⟨zg, 0, none⟩) 5 5) rfl (by kernel_rfl) (by kernel_rfl) (by kernel_rfl) (fun _ _ _ h => h) (Or.inl ⟨by simp [Region.wanted], fun W _ => by go_simp⟩) hS ?_
  simp only [lgT, lgZ, lgS, Act.put, lsT, lsZ, lsS]
  refine wpAnyH_take (i := 13) (v := .pointer (some ⟨zg, 3, none⟩)) rfl (by kernel_rfl) (by kernel_rfl) (by kernel_rfl) (fun _ _ _ h => h) (Or.inl ⟨by simp [Region.wanted], fun W _ => by go_simp⟩) hS ?_
  simp only [lgT, lgZ, lgS, Act.put, lsT, lsZ, lsS]
  refine wpAnyH_take (i := 14) (v := .int .i64 0) rfl (by kernel_rfl) (by kernel_rfl) (by kernel_rfl) (fun _ _ _ h => h) (Or.inl ⟨by simp [Region.wanted], fun W hW => by have kz := HYX.out W hW 3; go_simp⟩) hS ?_
  simp only [lgT, lgZ, lgS, Act.put, lsT, lsZ, lsS]
  refine wpAnyH_take (i := 15) (v := .slice (some ⟨zg, 0, none⟩) 5 5) rfl (by kernel_rfl) (by kernel_rfl) (by kernel_rfl) (fun _ _ _ h => h) (Or.inl ⟨by simp [Region.wanted], fun W _ => by go_simp⟩) hS ?_
  simp only [lgT, lgZ, lgS, Act.put, lsT, lsZ, lsS]
  refine wpAnyH_take (i := 16) (v := .pointer (some ⟨zg, 4, none⟩)) rfl (by kernel_rfl) (by kernel_rfl) (by kernel_rfl) (fun _ _ _ h => h) (Or.inl ⟨by simp [Region.wanted], fun W _ => by go_simp⟩) hS ?_
  simp only [lgT, lgZ, lgS, Act.put, lsT, lsZ, lsS]
  refine wpAnyH_take (i := 17) (v := .int .i64 0) rfl (by kernel_rfl) (by kernel_rfl) (by kernel_rfl) (fun _ _ _ h => h) (Or.inl ⟨by simp [Region.wanted], fun W hW => by have kz := HYX.out W hW 4; go_simp⟩) hS ?_
  simp only [lgT, lgZ, lgS, Act.put, lsT, lsZ, lsS]
  refine wpAnyH_take (i := 18) (v := .agg #[.int .i64 xa, .int .i64 0, .int .i64 0, .int .i64 0, .int .i64 0, .int .i64 0]) rfl (by kernel_rfl) (by kernel_rfl) (by kernel_rfl) (fun _ _ _ h => h) (Or.inl ⟨by simp [Region.wanted], fun W _ => by go_simp⟩) hS ?_
  simp only [lgT, lgZ, lgS, Act.put, lsT, lsZ, lsS]
  refine wpAnyH_ready (rs := [0]) (by kernel_rfl) (by simp) ?_
  refine AllReadyH.cons rfl (fun K0 hK0 => ?_) AllReadyH.nil
  refine wanted_go rfl ?_
  simp only [lgT, lgZ]
  have hld0 := load_book (W := W1.drew) (show BoxB W1.drew w.heap.size v b from HS1.out.bx)
  refine wp_load_known 27 (.tmp 2) rfl (.pointer (some ⟨w.heap.size, 0, none⟩)) _ rfl hld0 ?_
  refine hK0.out _ _ (FrX.below ((Below.refl _ _).drew)) (fun q0 => ?_)
  refine wpAnyH_ready (rs := [19]) (by kernel_rfl) (by simp) ?_
  refine AllReadyH.cons rfl (fun K1 hK1 => ?_) AllReadyH.nil
  refine wanted_go rfl ?_
  simp only [lgT, lgZ, lgS]
  go_wp2_with (go_at_call 63; refine (HCT.out W1.drew ((Below.refl _ _).drew)).mono ?_; rintro e w9 ⟨⟨v9, rfl, hi9⟩, hb9⟩; have HI9 := Lib.hid hi9; have HB9 := Lib.hid (((Below.refl _ W1).drew : Below W1.heap.size W1 W1.drew).trans hb9); clear hi9 hb9)
  refine hK1.out _ _ (FrX.below HB9.out) (fun q1 => ?_)
  have hs9 := HS1.out.below HB9.out
  refine wpAnyH_ready (rs := [20]) (by kernel_rfl) (by simp) ?_
  refine AllReadyH.cons rfl (fun K2 hK2 => ?_) AllReadyH.nil
  refine wanted_go rfl ?_
  simp only [lgT, lgZ, lgS]
  refine wp_store_row 27 (.tmp 2) (.tmp 126) rfl w.heap.size (cellsB v9 (setOpenT b [xa, 0, 0, 0, 0, 0])) rfl rfl 27 _ hs9.bx info27 rfl (by simp [cellsB, Value.oneCell']) ?_
  refine hK2.out _ _ ((FrX.below HB9.out).trans (FrX.row _)) (fun q2 => ?_)
  refine wpAnyH_done (by kernel_rfl) ?_ _
  have HSE := Lib.hid (hs9.put HI9.out (hlk))
  clear hs9 q0 q1 q2 hld0 hS
  go_upto_region 37 with (fail)
  have HLD := Lib.hid (load_book HSE.out.bx)
  obtain ⟨e1, e2⟩ := set_end HSE.out.lo HSE.out.inn hlk HSE.out.rz
  have HE1 := Lib.hid e1
  have HE2 := Lib.hid e2
  have HRZ := Lib.hid HSE.out.rz
  clear e1 e2
  go_wp2_with (first | ((with_reducible refine atLoadS (ty := 27) (x := .tmp 2) rfl ?_); refine loadE (by rfl) 27 (.tmp 2) rfl _ (.agg (cellsB v9 (setOpenT b [xa, 0, 0, 0, 0, 0]))) rfl HLD.out ?_) | ((with_reducible refine atStoreP (ty := 27) (x := .tmp 4) (y := .tmp 176) rfl ?_); refine wpList_store_row rfl 27 (.tmp 4) (.tmp 176) rfl (w.heap.size + 2) (cellsB v9 (setOpenT b [xa, 0, 0, 0, 0, 0])) rfl rfl 27 _ HRZ.out info27 rfl (by simp [cellsB, Value.oneCell']) ?_))
  refine ret_cell rfl rfl rfl HE1.out Tryz.underlying27 rfl info27 ?_
  rw [show BookAns w (setChT b ⟨3, xa, xb, xv, []⟩) = BookAns w (setOpenT b [xa, 0, 0, 0, 0, 0]) from by show BookAns w (setOpenT (if (([] : List Int) ≠ [] ∧ (0 : Int) = 0) then { b with co := -1 } else b) _) = _; rw [if_neg (fun h => h.1 rfl)]; rfl]; exact HE2.out
set_option maxRecDepth 100000 in
set_option maxHeartbeats 16000000 in
theorem set_2y (v : Slots) (b : BookT) (A1 A2 : Option Addr) (C1 C2 nx : Nat) (xa xb : Int) (xv : List Int) (y0 : Int) (w : World) (hb : BookIn w v b) (hk : BookOk 900 b) (ha6 : in6 xa) (hb6 : in6 xb) (hy : I64s w A2 [y0]) :
    Calls Tryz.prog 35 #[.agg (cellsB v b), .agg #[.int .i64 2, .int .i64 xa, .int .i64 xb, .slice A1 nx C1, .slice A2 1 C2]] w (BookAns w (setChT b ⟨2, xa, xb, xv, [y0]⟩)) := by
  obtain ⟨XC, hXC⟩ : ∃ x : Array Value, x = #[.int .i64 2, .int .i64 xa, .int .i64 xb, .slice A1 nx C1, .slice A2 1 C2] := ⟨_, rfl⟩
  obtain ⟨W0, hW0⟩ : ∃ x, ((w.alloc (.cells (cellsB v b) 27)).alloc (.cells #[.int .i64 2, .int .i64 xa, .int .i64 xb, .slice A1 nx C1, .slice A2 1 C2] 43)).alloc (.cells #[.slice none 0 0, .slice none 0 0, .slice none 0 0, .slice none 0 0, .int .i64 0] 27) = x := ⟨_, rfl⟩
  have hA : Below w.heap.size w W0 := by rw [← hW0]; exact (((Below.refl _ w).alloc (Nat.le_refl _) _).alloc (by simp) _).alloc (by simp; omega) _
  have hN := three_new (W := w) (O := .cells (cellsB v b) 27) (P := .cells #[.int .i64 2, .int .i64 xa, .int .i64 xb, .slice A1 nx C1, .slice A2 1 C2] 43) (S := (.cells #[.slice none 0 0, .slice none 0 0, .slice none 0 0, .slice none 0 0, .int .i64 0] 27))
  rw [hW0] at hN
  have HS := Lib.hid (show SetS w XC v b W0 from ⟨hN.1, by rw [hXC]; exact hN.2.1, hN.2.2, hA, hb.below hA⟩)
  have HXC := Lib.hid hXC
  have HK := Lib.hid hk
  have xc := fun (W : World) (h : SetS w XC v b W) (i : Nat) => (cell_of_row _ _ i _ _ _ h.ch).trans (by rw [hXC] : XC[i]? = (#[.int .i64 2, .int .i64 xa, .int .i64 xb, .slice A1 nx C1, .slice A2 1 C2] : Array Value)[i]?)
  have HXX := Lib.hid (fun (v' : Slots) (b' : BookT) (W : World) (h : SetS w XC v' b' W) (i : Nat) => (cell_of_row _ _ i _ _ _ h.ch).trans (by rw [hXC] : XC[i]? = (#[.int .i64 2, .int .i64 xa, .int .i64 xb, .slice A1 nx C1, .slice A2 1 C2] : Array Value)[i]?))
  have b0 := HS.out.bx.cells.1
  have b1 := HS.out.bx.cells.2.1
  have b2 := HS.out.bx.cells.2.2.1
  have b3 := HS.out.bx.cells.2.2.2.1
  have b4 := HS.out.bx.cells.2.2.2.2
  have x0 := xc W0 HS.out 0
  have x1 := xc W0 HS.out 1
  have x2 := xc W0 HS.out 2
  have x4 := xc W0 HS.out 4
  clear xc
  obtain ⟨yg, yo, rfl, hyl, hyc⟩ := i64_cells hy (by simp)
  have HYC := Lib.hid (fun (W : World) (h : Below w.heap.size w W) => hyc W h)
  have z0 := HYC.out W0 HS.out.lo 0 y0 rfl
  rw [Nat.add_zero] at z0
  have HYF := Lib.hid (fun (W1 W : World) (h1 : Below w.heap.size w W1) (h : FrX w.heap.size W1 W) (i : Nat) (z : Int) (hz : ([y0] : List Int)[i]? = some z) => show W.cell? ⟨yg, yo + i, none⟩ = some (.int .i64 z) by
    rw [h.cellX (by omega) (Nat.lt_of_lt_of_le hyl h1.size)]; exact hyc W1 h1 i z hz)
  clear hy hyc hyl
  clear hb hk hXC hA hN
  obtain ⟨CB, hCB⟩ : ∃ x, cellsB v b = x := ⟨_, rfl⟩
  have HCB := Lib.hid hCB
  rw [hCB] at hW0 ⊢
  clear hCB
  go_enter Tryz.func35, Tryz.ntmps35
  have HC1 := Lib.hid (setstake28 v b xa xb 0 W0 HS.out.inn (HK.out.ss.le (by omega)))
  have HLD1 := Lib.hid (load_book HS.out.bx)
  go_upto_region 17 with (first | ((with_reducible refine atLoadS (ty := 27) (x := .tmp 2) rfl ?_); refine loadE (by rfl) 27 (.tmp 2) rfl _ (.agg (cellsB v b)) rfl HLD1.out ?_) | (go_at_call 62; refine HC1.out.mono ?_; rintro e w8 ⟨⟨v8, rfl, hi8⟩, hb8⟩; have HI8 := Lib.hid hi8; have HB8 := Lib.hid hb8; have HS8 := Lib.hid (HS.out.below hb8); clear hi8 hb8) | ((with_reducible refine atStoreP (ty := 27) (x := .tmp 2) (y := .tmp 72) rfl ?_); refine wpList_store_row rfl 27 (.tmp 2) (.tmp 72) rfl w.heap.size (cellsB v8 (setStakeT b [xa, xb, 0])) rfl rfl 27 _ HS8.out.bx info27 rfl (by simp [cellsB, Value.oneCell']) ?_))
  refine at_world (Φ := fun W => SetS w XC v8 (setStakeT b [xa, xb, 0]) W) (HS8.out.put HI8.out (len_stake (len_ok HK.out) rfl)) ?_
  rintro W2 hs2
  have HS2 := Lib.hid hs2
  clear hs2 b0 b1 b2 b3 b4 x0 x1 x2 x4 z0 hW0
  have hit : ItemsOk 3 1000 (setStakeT b [xa, xb, 0]).ss := (setL_ok HK.out.ss ⟨rfl, fun z hz => by
    simp only [List.mem_cons, List.not_mem_nil, or_false] at hz
    rcases hz with rfl | rfl | rfl
    · exact ha6
    · exact hb6
    · exact ⟨by decide, by decide⟩⟩).le (by omega)
  have HIT := Lib.hid hit
  clear hit
  have b0 := HS2.out.bx.cells.1
  have b1 := HS2.out.bx.cells.2.1
  have b2 := HS2.out.bx.cells.2.2.1
  have b3 := HS2.out.bx.cells.2.2.2.1
  have b4 := HS2.out.bx.cells.2.2.2.2
  have x0 := HXX.out _ _ _ HS2.out 0
  have x1 := HXX.out _ _ _ HS2.out 1
  have x2 := HXX.out _ _ _ HS2.out 2
  have x4 := HXX.out _ _ _ HS2.out 4
  have z0 := HYF.out W2 W2 HS2.out.lo (FrX.refl _ _) 0 y0 rfl
  rw [Nat.add_zero] at z0
  by_cases h0 : y0 = 0
  · have H5 := Lib.hid (HS2.out.cell (v' := v8) (b' := ({ (setStakeT b [xa, xb, 0]) with co := -1 } : BookT)) (i := 4) (u := .int .i64 (-1)) (in_co HS2.out.inn) (len_co (len_stake (len_ok HK.out) rfl)) (by simp [cellsB]))
    have hfz := free_of_blkN HS2.out.bx 4
    have gy : (y0 == 0) = true := by simpa using h0
    have HY3 := Lib.hid h0
    clear h0
    go_upto_region 19 with (fail)
    obtain ⟨W3, hW3⟩ : ∃ x, W2.setCell ⟨w.heap.size, 4, none⟩ (.int .i64 (-1)) = x := ⟨_, rfl⟩
    rw [hW3] at H5 ⊢
    clear hW3 z0 hfz b0 b1 b2 b3 b4 x0 x1 x2 x4
    have HCX := Lib.hid (fun W (h : FrX w.heap.size W3 W) (i : Nat) => (cell_of_row _ _ i _ _ _ (h.same _ _ (by omega) H5.out.ch)).trans (by rw [HXC.out] : XC[i]? = (#[.int .i64 2, .int .i64 xa, .int .i64 xb, .slice A1 nx C1, .slice (some ⟨yg, yo, none⟩) 1 C2] : Array Value)[i]?))
    have HYX := Lib.hid (fun W (h : FrX w.heap.size W3 W) => (fun i => HYF.out W3 W H5.out.lo h i))
    have HCT := Lib.hid (fun W (h : Below W3.heap.size W3 W) => setstake28 v8 ({ (setStakeT b [xa, xb, 0]) with co := -1 } : BookT) xa xb y0 W (H5.out.inn.below h) (HIT.out))
    have hlk : LenB (setStakeT ({ (setStakeT b [xa, xb, 0]) with co := -1 } : BookT) [xa, xb, y0]) := len_stake (len_co (len_stake (len_ok HK.out) rfl)) rfl
    go_upto_region 19 with (fail)
    refine wp_region_held_drew (S := fun W => FrX w.heap.size W3 W) (by kernel_rfl) (FrX.below ((Below.refl _ _).drew)) (fun hS => ?_)
    refine wpAnyH_take (i := 1) (v := .pointer (some ⟨w.heap.size + 1, 1, none⟩)) rfl (by kernel_rfl) (by kernel_rfl) (by kernel_rfl) (fun _ _ _ h => h) (Or.inl ⟨by simp [Region.wanted], fun W _ => by go_simp⟩) hS ?_
    simp only [lgT, lgZ, lgS, Act.put, lsT, lsZ, lsS]
    refine wpAnyH_take (i := 2) (v := .int .i64 xa) rfl (by kernel_rfl) (by kernel_rfl) (by kernel_rfl) (fun _ _ _ h => h) (Or.inl ⟨by simp [Region.wanted], fun W hW => by have kc := HCX.out W hW 1; go_simp⟩) hS ?_
    simp only [lgT, lgZ, lgS, Act.put, lsT, lsZ, lsS]
    refine wpAnyH_take (i := 3) (v := .pointer (some ⟨w.heap.size + 1, 2, none⟩)) rfl (by kernel_rfl) (by kernel_rfl) (by kernel_rfl) (fun _ _ _ h => h) (Or.inl ⟨by simp [Region.wanted], fun W _ => by go_simp⟩) hS ?_
    simp only [lgT, lgZ, lgS, Act.put, lsT, lsZ, lsS]
    refine wpAnyH_take (i := 4) (v := .int .i64 xb) rfl (by kernel_rfl) (by kernel_rfl) (by kernel_rfl) (fun _ _ _ h => h) (Or.inl ⟨by simp [Region.wanted], fun W hW => by have kc := HCX.out W hW 2; go_simp⟩) hS ?_
    simp only [lgT, lgZ, lgS, Act.put, lsT, lsZ, lsS]
    refine wpAnyH_take (i := 5) (v := .slice (some ⟨yg, yo, none⟩) 1 C2) rfl (by kernel_rfl) (by kernel_rfl) (by kernel_rfl) (fun _ _ _ h => h) (Or.inl ⟨by simp [Region.wanted], fun W _ => by go_simp⟩) hS ?_
    simp only [lgT, lgZ, lgS, Act.put, lsT, lsZ, lsS]
    refine wpAnyH_take (i := 6) (v := .pointer (some ⟨yg, yo, none⟩)) rfl (by kernel_rfl) (by kernel_rfl) (by kernel_rfl) (fun _ _ _ h => h) (Or.inl ⟨by simp [Region.wanted], fun W _ => by go_simp⟩) hS ?_
    simp only [lgT, lgZ, lgS, Act.put, lsT, lsZ, lsS]
    refine wpAnyH_take (i := 7) (v := .int .i64 y0) rfl (by kernel_rfl) (by kernel_rfl) (by kernel_rfl) (fun _ _ _ h => h) (Or.inl ⟨by simp [Region.wanted], fun W hW => by have kz := HYX.out W hW 0 y0 rfl; rw [Nat.add_zero] at kz; go_simp⟩) hS ?_
    simp only [lgT, lgZ, lgS, Act.put, lsT, lsZ, lsS]
    refine wpAnyH_take (i := 8) (v := .agg #[.int .i64 xa, .int .i64 xb, .int .i64 y0]) rfl (by kernel_rfl) (by kernel_rfl) (by kernel_rfl) (fun _ _ _ h => h) (Or.inl ⟨by simp [Region.wanted], fun W _ => by go_simp⟩) hS ?_
    simp only [lgT, lgZ, lgS, Act.put, lsT, lsZ, lsS]
    refine wpAnyH_ready (rs := [0]) (by kernel_rfl) (by simp) ?_
    refine AllReadyH.cons rfl (fun K0 hK0 => ?_) AllReadyH.nil
    refine wanted_go rfl ?_
    simp only [lgT, lgZ]
    have hld0 := load_book (W := W3.drew) (show BoxB W3.drew w.heap.size v8 ({ (setStakeT b [xa, xb, 0]) with co := -1 } : BookT) from H5.out.bx)
    refine wp_load_known 27 (.tmp 2) rfl (.pointer (some ⟨w.heap.size, 0, none⟩)) _ rfl hld0 ?_
    refine hK0.out _ _ (FrX.below ((Below.refl _ _).drew)) (fun q0 => ?_)
    refine wpAnyH_ready (rs := [9]) (by kernel_rfl) (by simp) ?_
    refine AllReadyH.cons rfl (fun K1 hK1 => ?_) AllReadyH.nil
    refine wanted_go rfl ?_
    simp only [lgT, lgZ, lgS]
    go_wp2_with (go_at_call 62; refine (HCT.out W3.drew ((Below.refl _ _).drew)).mono ?_; rintro e w9 ⟨⟨v9, rfl, hi9⟩, hb9⟩; have HI9 := Lib.hid hi9; have HB9 := Lib.hid (((Below.refl _ W3).drew : Below W3.heap.size W3 W3.drew).trans hb9); clear hi9 hb9)
    refine hK1.out _ _ (FrX.below HB9.out) (fun q1 => ?_)
    have hs9 := H5.out.below HB9.out
    refine wpAnyH_ready (rs := [10]) (by kernel_rfl) (by simp) ?_
    refine AllReadyH.cons rfl (fun K2 hK2 => ?_) AllReadyH.nil
    refine wanted_go rfl ?_
    simp only [lgT, lgZ, lgS]
    refine wp_store_row 27 (.tmp 2) (.tmp 93) rfl w.heap.size (cellsB v9 (setStakeT ({ (setStakeT b [xa, xb, 0]) with co := -1 } : BookT) [xa, xb, y0])) rfl rfl 27 _ hs9.bx info27 rfl (by simp [cellsB, Value.oneCell']) ?_
    refine hK2.out _ _ ((FrX.below HB9.out).trans (FrX.row _)) (fun q2 => ?_)
    refine wpAnyH_done (by kernel_rfl) ?_ _
    have HSE := Lib.hid (hs9.put HI9.out (hlk))
    clear hs9 q0 q1 q2 hld0 hS
    go_upto_region 37 with (fail)
    have HLD := Lib.hid (load_book HSE.out.bx)
    obtain ⟨e1, e2⟩ := set_end HSE.out.lo HSE.out.inn hlk HSE.out.rz
    have HE1 := Lib.hid e1
    have HE2 := Lib.hid e2
    have HRZ := Lib.hid HSE.out.rz
    clear e1 e2
    go_wp2_with (first | ((with_reducible refine atLoadS (ty := 27) (x := .tmp 2) rfl ?_); refine loadE (by rfl) 27 (.tmp 2) rfl _ (.agg (cellsB v9 (setStakeT ({ (setStakeT b [xa, xb, 0]) with co := -1 } : BookT) [xa, xb, y0]))) rfl HLD.out ?_) | ((with_reducible refine atStoreP (ty := 27) (x := .tmp 4) (y := .tmp 176) rfl ?_); refine wpList_store_row rfl 27 (.tmp 4) (.tmp 176) rfl (w.heap.size + 2) (cellsB v9 (setStakeT ({ (setStakeT b [xa, xb, 0]) with co := -1 } : BookT) [xa, xb, y0])) rfl rfl 27 _ HRZ.out info27 rfl (by simp [cellsB, Value.oneCell']) ?_))
    refine ret_cell rfl rfl rfl HE1.out Tryz.underlying27 rfl info27 ?_
    rw [show BookAns w (setChT b ⟨2, xa, xb, xv, [y0]⟩) = BookAns w (setStakeT ({ (setStakeT b [xa, xb, 0]) with co := -1 } : BookT) [xa, xb, y0]) from by show BookAns w (setStakeT (if (([y0] : List Int) ≠ [] ∧ y0 = 0) then { (setStakeT b [xa, xb, 0]) with co := -1 } else (setStakeT b [xa, xb, 0])) _) = _; rw [if_pos ⟨by simp, HY3.out⟩]; rfl]; exact HE2.out
  · have gy : (y0 == 0) = false := by simpa using h0
    have HY3 := Lib.hid h0
    clear h0
    go_upto_region 19 with (fail)
    clear z0 b0 b1 b2 b3 b4 x0 x1 x2 x4
    have HCX := Lib.hid (fun W (h : FrX w.heap.size W2 W) (i : Nat) => (cell_of_row _ _ i _ _ _ (h.same _ _ (by omega) HS2.out.ch)).trans (by rw [HXC.out] : XC[i]? = (#[.int .i64 2, .int .i64 xa, .int .i64 xb, .slice A1 nx C1, .slice (some ⟨yg, yo, none⟩) 1 C2] : Array Value)[i]?))
    have HYX := Lib.hid (fun W (h : FrX w.heap.size W2 W) => (fun i => HYF.out W2 W HS2.out.lo h i))
    have HCT := Lib.hid (fun W (h : Below W2.heap.size W2 W) => setstake28 v8 (setStakeT b [xa, xb, 0]) xa xb y0 W (HS2.out.inn.below h) (HIT.out))
    have hlk : LenB (setStakeT (setStakeT b [xa, xb, 0]) [xa, xb, y0]) := len_stake (len_stake (len_ok HK.out) rfl) rfl
    go_upto_region 19 with (fail)
    refine wp_region_held_drew (S := fun W => FrX w.heap.size W2 W) (by kernel_rfl) (FrX.below ((Below.refl _ _).drew)) (fun hS => ?_)
    refine wpAnyH_take (i := 1) (v := .pointer (some ⟨w.heap.size + 1, 1, none⟩)) rfl (by kernel_rfl) (by kernel_rfl) (by kernel_rfl) (fun _ _ _ h => h) (Or.inl ⟨by simp [Region.wanted], fun W _ => by go_simp⟩) hS ?_
    simp only [lgT, lgZ, lgS, Act.put, lsT, lsZ, lsS]
    refine wpAnyH_take (i := 2) (v := .int .i64 xa) rfl (by kernel_rfl) (by kernel_rfl) (by kernel_rfl) (fun _ _ _ h => h) (Or.inl ⟨by simp [Region.wanted], fun W hW => by have kc := HCX.out W hW 1; go_simp⟩) hS ?_
    simp only [lgT, lgZ, lgS, Act.put, lsT, lsZ, lsS]
    refine wpAnyH_take (i := 3) (v := .pointer (some ⟨w.heap.size + 1, 2, none⟩)) rfl (by kernel_rfl) (by kernel_rfl) (by kernel_rfl) (fun _ _ _ h => h) (Or.inl ⟨by simp [Region.wanted], fun W _ => by go_simp⟩) hS ?_
    simp only [lgT, lgZ, lgS, Act.put, lsT, lsZ, lsS]
    refine wpAnyH_take (i := 4) (v := .int .i64 xb) rfl (by kernel_rfl) (by kernel_rfl) (by kernel_rfl) (fun _ _ _ h => h) (Or.inl ⟨by simp [Region.wanted], fun W hW => by have kc := HCX.out W hW 2; go_simp⟩) hS ?_
    simp only [lgT, lgZ, lgS, Act.put, lsT, lsZ, lsS]
    refine wpAnyH_take (i := 5) (v := .slice (some ⟨yg, yo, none⟩) 1 C2) rfl (by kernel_rfl) (by kernel_rfl) (by kernel_rfl) (fun _ _ _ h => h) (Or.inl ⟨by simp [Region.wanted], fun W _ => by go_simp⟩) hS ?_
    simp only [lgT, lgZ, lgS, Act.put, lsT, lsZ, lsS]
    refine wpAnyH_take (i := 6) (v := .pointer (some ⟨yg, yo, none⟩)) rfl (by kernel_rfl) (by kernel_rfl) (by kernel_rfl) (fun _ _ _ h => h) (Or.inl ⟨by simp [Region.wanted], fun W _ => by go_simp⟩) hS ?_
    simp only [lgT, lgZ, lgS, Act.put, lsT, lsZ, lsS]
    refine wpAnyH_take (i := 7) (v := .int .i64 y0) rfl (by kernel_rfl) (by kernel_rfl) (by kernel_rfl) (fun _ _ _ h => h) (Or.inl ⟨by simp [Region.wanted], fun W hW => by have kz := HYX.out W hW 0 y0 rfl; rw [Nat.add_zero] at kz; go_simp⟩) hS ?_
    simp only [lgT, lgZ, lgS, Act.put, lsT, lsZ, lsS]
    refine wpAnyH_take (i := 8) (v := .agg #[.int .i64 xa, .int .i64 xb, .int .i64 y0]) rfl (by kernel_rfl) (by kernel_rfl) (by kernel_rfl) (fun _ _ _ h => h) (Or.inl ⟨by simp [Region.wanted], fun W _ => by go_simp⟩) hS ?_
    simp only [lgT, lgZ, lgS, Act.put, lsT, lsZ, lsS]
    refine wpAnyH_ready (rs := [0]) (by kernel_rfl) (by simp) ?_
    refine AllReadyH.cons rfl (fun K0 hK0 => ?_) AllReadyH.nil
    refine wanted_go rfl ?_
    simp only [lgT, lgZ]
    have hld0 := load_book (W := W2.drew) (show BoxB W2.drew w.heap.size v8 (setStakeT b [xa, xb, 0]) from HS2.out.bx)
    refine wp_load_known 27 (.tmp 2) rfl (.pointer (some ⟨w.heap.size, 0, none⟩)) _ rfl hld0 ?_
    refine hK0.out _ _ (FrX.below ((Below.refl _ _).drew)) (fun q0 => ?_)
    refine wpAnyH_ready (rs := [9]) (by kernel_rfl) (by simp) ?_
    refine AllReadyH.cons rfl (fun K1 hK1 => ?_) AllReadyH.nil
    refine wanted_go rfl ?_
    simp only [lgT, lgZ, lgS]
    go_wp2_with (go_at_call 62; refine (HCT.out W2.drew ((Below.refl _ _).drew)).mono ?_; rintro e w9 ⟨⟨v9, rfl, hi9⟩, hb9⟩; have HI9 := Lib.hid hi9; have HB9 := Lib.hid (((Below.refl _ W2).drew : Below W2.heap.size W2 W2.drew).trans hb9); clear hi9 hb9)
    refine hK1.out _ _ (FrX.below HB9.out) (fun q1 => ?_)
    have hs9 := HS2.out.below HB9.out
    refine wpAnyH_ready (rs := [10]) (by kernel_rfl) (by simp) ?_
    refine AllReadyH.cons rfl (fun K2 hK2 => ?_) AllReadyH.nil
    refine wanted_go rfl ?_
    simp only [lgT, lgZ, lgS]
    refine wp_store_row 27 (.tmp 2) (.tmp 93) rfl w.heap.size (cellsB v9 (setStakeT (setStakeT b [xa, xb, 0]) [xa, xb, y0])) rfl rfl 27 _ hs9.bx info27 rfl (by simp [cellsB, Value.oneCell']) ?_
    refine hK2.out _ _ ((FrX.below HB9.out).trans (FrX.row _)) (fun q2 => ?_)
    refine wpAnyH_done (by kernel_rfl) ?_ _
    have HSE := Lib.hid (hs9.put HI9.out (hlk))
    clear hs9 q0 q1 q2 hld0 hS
    go_upto_region 37 with (fail)
    have HLD := Lib.hid (load_book HSE.out.bx)
    obtain ⟨e1, e2⟩ := set_end HSE.out.lo HSE.out.inn hlk HSE.out.rz
    have HE1 := Lib.hid e1
    have HE2 := Lib.hid e2
    have HRZ := Lib.hid HSE.out.rz
    clear e1 e2
    go_wp2_with (first | ((with_reducible refine atLoadS (ty := 27) (x := .tmp 2) rfl ?_); refine loadE (by rfl) 27 (.tmp 2) rfl _ (.agg (cellsB v9 (setStakeT (setStakeT b [xa, xb, 0]) [xa, xb, y0]))) rfl HLD.out ?_) | ((with_reducible refine atStoreP (ty := 27) (x := .tmp 4) (y := .tmp 176) rfl ?_); refine wpList_store_row rfl 27 (.tmp 4) (.tmp 176) rfl (w.heap.size + 2) (cellsB v9 (setStakeT (setStakeT b [xa, xb, 0]) [xa, xb, y0])) rfl rfl 27 _ HRZ.out info27 rfl (by simp [cellsB, Value.oneCell']) ?_))
    refine ret_cell rfl rfl rfl HE1.out Tryz.underlying27 rfl info27 ?_
    rw [show BookAns w (setChT b ⟨2, xa, xb, xv, [y0]⟩) = BookAns w (setStakeT (setStakeT b [xa, xb, 0]) [xa, xb, y0]) from by show BookAns w (setStakeT (if (([y0] : List Int) ≠ [] ∧ y0 = 0) then { (setStakeT b [xa, xb, 0]) with co := -1 } else (setStakeT b [xa, xb, 0])) _) = _; rw [if_neg (fun h => HY3.out h.2)]; rfl]; exact HE2.out
set_option maxRecDepth 100000 in
set_option maxHeartbeats 16000000 in
theorem set_2n (v : Slots) (b : BookT) (A1 A2 : Option Addr) (C1 C2 nx : Nat) (xa xb : Int) (xv : List Int) (w : World) (hb : BookIn w v b) (hk : BookOk 900 b) (ha6 : in6 xa) (hb6 : in6 xb) :
    Calls Tryz.prog 35 #[.agg (cellsB v b), .agg #[.int .i64 2, .int .i64 xa, .int .i64 xb, .slice A1 nx C1, .slice A2 0 C2]] w (BookAns w (setChT b ⟨2, xa, xb, xv, []⟩)) := by
  obtain ⟨XC, hXC⟩ : ∃ x : Array Value, x = #[.int .i64 2, .int .i64 xa, .int .i64 xb, .slice A1 nx C1, .slice A2 0 C2] := ⟨_, rfl⟩
  obtain ⟨W0, hW0⟩ : ∃ x, ((w.alloc (.cells (cellsB v b) 27)).alloc (.cells #[.int .i64 2, .int .i64 xa, .int .i64 xb, .slice A1 nx C1, .slice A2 0 C2] 43)).alloc (.cells #[.slice none 0 0, .slice none 0 0, .slice none 0 0, .slice none 0 0, .int .i64 0] 27) = x := ⟨_, rfl⟩
  have hA : Below w.heap.size w W0 := by rw [← hW0]; exact (((Below.refl _ w).alloc (Nat.le_refl _) _).alloc (by simp) _).alloc (by simp; omega) _
  have hN := three_new (W := w) (O := .cells (cellsB v b) 27) (P := .cells #[.int .i64 2, .int .i64 xa, .int .i64 xb, .slice A1 nx C1, .slice A2 0 C2] 43) (S := (.cells #[.slice none 0 0, .slice none 0 0, .slice none 0 0, .slice none 0 0, .int .i64 0] 27))
  rw [hW0] at hN
  have HS := Lib.hid (show SetS w XC v b W0 from ⟨hN.1, by rw [hXC]; exact hN.2.1, hN.2.2, hA, hb.below hA⟩)
  have HXC := Lib.hid hXC
  have HK := Lib.hid hk
  have xc := fun (W : World) (h : SetS w XC v b W) (i : Nat) => (cell_of_row _ _ i _ _ _ h.ch).trans (by rw [hXC] : XC[i]? = (#[.int .i64 2, .int .i64 xa, .int .i64 xb, .slice A1 nx C1, .slice A2 0 C2] : Array Value)[i]?)
  have HXX := Lib.hid (fun (v' : Slots) (b' : BookT) (W : World) (h : SetS w XC v' b' W) (i : Nat) => (cell_of_row _ _ i _ _ _ h.ch).trans (by rw [hXC] : XC[i]? = (#[.int .i64 2, .int .i64 xa, .int .i64 xb, .slice A1 nx C1, .slice A2 0 C2] : Array Value)[i]?))
  have b0 := HS.out.bx.cells.1
  have b1 := HS.out.bx.cells.2.1
  have b2 := HS.out.bx.cells.2.2.1
  have b3 := HS.out.bx.cells.2.2.2.1
  have b4 := HS.out.bx.cells.2.2.2.2
  have x0 := xc W0 HS.out 0
  have x1 := xc W0 HS.out 1
  have x2 := xc W0 HS.out 2
  have x4 := xc W0 HS.out 4
  clear xc
  clear hb hk hXC hA hN
  obtain ⟨CB, hCB⟩ : ∃ x, cellsB v b = x := ⟨_, rfl⟩
  have HCB := Lib.hid hCB
  rw [hCB] at hW0 ⊢
  clear hCB
  have hmk := make5
  go_enter Tryz.func35, Tryz.ntmps35
  go_upto_region 4 with (fail)
  refine at_world (Φ := fun W => SetS w XC v b W ∧ W.heap[W0.heap.size]? = some (.cells #[.int .i64 0, .int .i64 0, .int .i64 0, .int .i64 0, .int .i64 0] 2 (0, 0)) ∧ Below W0.heap.size W0 W) ⟨HS.out.below ((Below.refl _ _).alloc (Nat.le_refl _) _), heap_alloc_new W0 _, (Below.refl _ _).alloc (Nat.le_refl _) _⟩ ?_
  rintro W1 ⟨hs1, hzz, hb01⟩
  have HS1 := Lib.hid hs1
  have HZZ := Lib.hid hzz
  have hzn : w.heap.size ≠ W0.heap.size := by have := HS.out.bx; have := lt_of_blk this; omega
  have HZN := Lib.hid hzn
  have HYZ := Lib.hid (fun (W1' W : World) (h1 : W1'.heap[W0.heap.size]? = some (.cells #[.int .i64 0, .int .i64 0, .int .i64 0, .int .i64 0, .int .i64 0] 2 (0, 0))) (h : FrX w.heap.size W1' W) (i : Nat) => (cell_of_row _ _ i _ _ _ (h.same _ _ (Ne.symm HZN.out) h1) : W.cell? ⟨W0.heap.size, i, none⟩ = (#[.int .i64 0, .int .i64 0, .int .i64 0, .int .i64 0, .int .i64 0] : Array Value)[i]?))
  clear hs1 hzz hb01 hzn hmk hW0 b0 b1 b2 b3 b4 x0 x1 x2 x4
  generalize W0.heap.size = zg at *
  have b0 := HS1.out.bx.cells.1
  have b1 := HS1.out.bx.cells.2.1
  have b2 := HS1.out.bx.cells.2.2.1
  have b3 := HS1.out.bx.cells.2.2.2.1
  have b4 := HS1.out.bx.cells.2.2.2.2
  have x0 := HXX.out _ _ _ HS1.out 0
  have x1 := HXX.out _ _ _ HS1.out 1
  have x2 := HXX.out _ _ _ HS1.out 2
  have x4 := HXX.out _ _ _ HS1.out 4
  have HC1 := Lib.hid (setstake28 v b xa xb 0 W1 HS1.out.inn (HK.out.ss.le (by omega)))
  have HLD1 := Lib.hid (load_book HS1.out.bx)
  go_upto_region 17 with (first | ((with_reducible refine atLoadS (ty := 27) (x := .tmp 2) rfl ?_); refine loadE (by rfl) 27 (.tmp 2) rfl _ (.agg (cellsB v b)) rfl HLD1.out ?_) | (go_at_call 62; refine HC1.out.mono ?_; rintro e w8 ⟨⟨v8, rfl, hi8⟩, hb8⟩; have HI8 := Lib.hid hi8; have HB8 := Lib.hid hb8; have HS8 := Lib.hid (HS1.out.below hb8); clear hi8 hb8) | ((with_reducible refine atStoreP (ty := 27) (x := .tmp 2) (y := .tmp 72) rfl ?_); refine wpList_store_row rfl 27 (.tmp 2) (.tmp 72) rfl w.heap.size (cellsB v8 (setStakeT b [xa, xb, 0])) rfl rfl 27 _ HS8.out.bx info27 rfl (by simp [cellsB, Value.oneCell']) ?_))
  refine at_world (Φ := fun W => SetS w XC v8 (setStakeT b [xa, xb, 0]) W ∧ W.heap[zg]? = some (.cells #[.int .i64 0, .int .i64 0, .int .i64 0, .int .i64 0, .int .i64 0] 2 (0, 0))) ⟨HS8.out.put HI8.out (len_stake (len_ok HK.out) rfl), (setRow_ne _ (Ne.symm HZN.out)).trans ((HB8.out.block _ (lt_of_blk HZZ.out)).trans HZZ.out)⟩ ?_
  rintro W2 ⟨hs2, hz2⟩
  have HS2 := Lib.hid hs2
  have HZ2 := Lib.hid hz2
  clear hz2
  clear hs2 b0 b1 b2 b3 b4 x0 x1 x2 x4
  have hit : ItemsOk 3 1000 (setStakeT b [xa, xb, 0]).ss := (setL_ok HK.out.ss ⟨rfl, fun z hz => by
    simp only [List.mem_cons, List.not_mem_nil, or_false] at hz
    rcases hz with rfl | rfl | rfl
    · exact ha6
    · exact hb6
    · exact ⟨by decide, by decide⟩⟩).le (by omega)
  have HIT := Lib.hid hit
  clear hit
  have b0 := HS2.out.bx.cells.1
  have b1 := HS2.out.bx.cells.2.1
  have b2 := HS2.out.bx.cells.2.2.1
  have b3 := HS2.out.bx.cells.2.2.2.1
  have b4 := HS2.out.bx.cells.2.2.2.2
  have x0 := HXX.out _ _ _ HS2.out 0
  have x1 := HXX.out _ _ _ HS2.out 1
  have x2 := HXX.out _ _ _ HS2.out 2
  have x4 := HXX.out _ _ _ HS2.out 4
  go_upto_region 19 with (fail)
  clear b0 b1 b2 b3 b4 x0 x1 x2 x4
  have HCX := Lib.hid (fun W (h : FrX w.heap.size W2 W) (i : Nat) => (cell_of_row _ _ i _ _ _ (h.same _ _ (by omega) HS2.out.ch)).trans (by rw [HXC.out] : XC[i]? = (#[.int .i64 2, .int .i64 xa, .int .i64 xb, .slice A1 nx C1, .slice A2 0 C2] : Array Value)[i]?))
  have HYX := Lib.hid (fun W (h : FrX w.heap.size W2 W) => HYZ.out W2 W HZ2.out h)
  have HCT := Lib.hid (fun W (h : Below W2.heap.size W2 W) => setstake28 v8 (setStakeT b [xa, xb, 0]) xa xb 0 W (HS2.out.inn.below h) (HIT.out))
  have hlk : LenB (setStakeT (setStakeT b [xa, xb, 0]) [xa, xb, 0]) := len_stake (len_stake (len_ok HK.out) rfl) rfl
  go_upto_region 19 with (fail)
  refine wp_region_held_drew (S := fun W => FrX w.heap.size W2 W) (by kernel_rfl) (FrX.below ((Below.refl _ _).drew)) (fun hS => ?_)
  refine wpAnyH_take (i := 1) (v := .pointer (some ⟨w.heap.size + 1, 1, none⟩)) rfl (by kernel_rfl) (by kernel_rfl) (by kernel_rfl) (fun _ _ _ h => h) (Or.inl ⟨by simp [Region.wanted], fun W _ => by go_simp⟩) hS ?_
  simp only [lgT, lgZ, lgS, Act.put, lsT, lsZ, lsS]
  refine wpAnyH_take (i := 2) (v := .int .i64 xa) rfl (by kernel_rfl) (by kernel_rfl) (by kernel_rfl) (fun _ _ _ h => h) (Or.inl ⟨by simp [Region.wanted], fun W hW => by have kc := HCX.out W hW 1; go_simp⟩) hS ?_
  simp only [lgT, lgZ, lgS, Act.put, lsT, lsZ, lsS]
  refine wpAnyH_take (i := 3) (v := .pointer (some ⟨w.heap.size + 1, 2, none⟩)) rfl (by kernel_rfl) (by kernel_rfl) (by kernel_rfl) (fun _ _ _ h => h) (Or.inl ⟨by simp [Region.wanted], fun W _ => by go_simp⟩) hS ?_
  simp only [lgT, lgZ, lgS, Act.put, lsT, lsZ, lsS]
  refine wpAnyH_take (i := 4) (v := .int .i64 xb) rfl (by kernel_rfl) (by kernel_rfl) (by kernel_rfl) (fun _ _ _ h => h) (Or.inl ⟨by simp [Region.wanted], fun W hW => by have kc := HCX.out W hW 2; go_simp⟩) hS ?_
  simp only [lgT, lgZ, lgS, Act.put, lsT, lsZ, lsS]
  refine wpAnyH_take (i := 5) (v := .slice (some ⟨zg, 0, none⟩) 5 5) rfl (by kernel_rfl) (by kernel_rfl) (by kernel_rfl) (fun _ _ _ h => h) (Or.inl ⟨by simp [Region.wanted], fun W _ => by go_simp⟩) hS ?_
  simp only [lgT, lgZ, lgS, Act.put, lsT, lsZ, lsS]
  refine wpAnyH_take (i := 6) (v := .pointer (some ⟨zg, 0, none⟩)) rfl (by kernel_rfl) (by kernel_rfl) (by kernel_rfl) (fun _ _ _ h => h) (Or.inl ⟨by simp [Region.wanted], fun W _ => by go_simp⟩) hS ?_
  simp only [lgT, lgZ, lgS, Act.put, lsT, lsZ, lsS]
  refine wpAnyH_take (i := 7) (v := .int .i64 0) rfl (by kernel_rfl) (by kernel_rfl) (by kernel_rfl) (fun _ _ _ h => h) (Or.inl ⟨by simp [Region.wanted], fun W hW => by have kz := HYX.out W hW 0; go_simp⟩) hS ?_
  simp only [lgT, lgZ, lgS, Act.put, lsT, lsZ, lsS]
  refine wpAnyH_take (i := 8) (v := .agg #[.int .i64 xa, .int .i64 xb, .int .i64 0]) rfl (by kernel_rfl) (by kernel_rfl) (by kernel_rfl) (fun _ _ _ h => h) (Or.inl ⟨by simp [Region.wanted], fun W _ => by go_simp⟩) hS ?_
  simp only [lgT, lgZ, lgS, Act.put, lsT, lsZ, lsS]
  refine wpAnyH_ready (rs := [0]) (by kernel_rfl) (by simp) ?_
  refine AllReadyH.cons rfl (fun K0 hK0 => ?_) AllReadyH.nil
  refine wanted_go rfl ?_
  simp only [lgT, lgZ]
  have hld0 := load_book (W := W2.drew) (show BoxB W2.drew w.heap.size v8 (setStakeT b [xa, xb, 0]) from HS2.out.bx)
  refine wp_load_known 27 (.tmp 2) rfl (.pointer (some ⟨w.heap.size, 0, none⟩)) _ rfl hld0 ?_
  refine hK0.out _ _ (FrX.below ((Below.refl _ _).drew)) (fun q0 => ?_)
  refine wpAnyH_ready (rs := [9]) (by kernel_rfl) (by simp) ?_
  refine AllReadyH.cons rfl (fun K1 hK1 => ?_) AllReadyH.nil
  refine wanted_go rfl ?_
  simp only [lgT, lgZ, lgS]
  go_wp2_with (go_at_call 62; refine (HCT.out W2.drew ((Below.refl _ _).drew)).mono ?_; rintro e w9 ⟨⟨v9, rfl, hi9⟩, hb9⟩; have HI9 := Lib.hid hi9; have HB9 := Lib.hid (((Below.refl _ W2).drew : Below W2.heap.size W2 W2.drew).trans hb9); clear hi9 hb9)
  refine hK1.out _ _ (FrX.below HB9.out) (fun q1 => ?_)
  have hs9 := HS2.out.below HB9.out
  refine wpAnyH_ready (rs := [10]) (by kernel_rfl) (by simp) ?_
  refine AllReadyH.cons rfl (fun K2 hK2 => ?_) AllReadyH.nil
  refine wanted_go rfl ?_
  simp only [lgT, lgZ, lgS]
  refine wp_store_row 27 (.tmp 2) (.tmp 93) rfl w.heap.size (cellsB v9 (setStakeT (setStakeT b [xa, xb, 0]) [xa, xb, 0])) rfl rfl 27 _ hs9.bx info27 rfl (by simp [cellsB, Value.oneCell']) ?_
  refine hK2.out _ _ ((FrX.below HB9.out).trans (FrX.row _)) (fun q2 => ?_)
  refine wpAnyH_done (by kernel_rfl) ?_ _
  have HSE := Lib.hid (hs9.put HI9.out (hlk))
  clear hs9 q0 q1 q2 hld0 hS
  go_upto_region 37 with (fail)
  have HLD := Lib.hid (load_book HSE.out.bx)
  obtain ⟨e1, e2⟩ := set_end HSE.out.lo HSE.out.inn hlk HSE.out.rz
  have HE1 := Lib.hid e1
  have HE2 := Lib.hid e2
  have HRZ := Lib.hid HSE.out.rz
  clear e1 e2
  go_wp2_with (first | ((with_reducible refine atLoadS (ty := 27) (x := .tmp 2) rfl ?_); refine loadE (by rfl) 27 (.tmp 2) rfl _ (.agg (cellsB v9 (setStakeT (setStakeT b [xa, xb, 0]) [xa, xb, 0]))) rfl HLD.out ?_) | ((with_reducible refine atStoreP (ty := 27) (x := .tmp 4) (y := .tmp 176) rfl ?_); refine wpList_store_row rfl 27 (.tmp 4) (.tmp 176) rfl (w.heap.size + 2) (cellsB v9 (setStakeT (setStakeT b [xa, xb, 0]) [xa, xb, 0])) rfl rfl 27 _ HRZ.out info27 rfl (by simp [cellsB, Value.oneCell']) ?_))
  refine ret_cell rfl rfl rfl HE1.out Tryz.underlying27 rfl info27 ?_
  rw [show BookAns w (setChT b ⟨2, xa, xb, xv, []⟩) = BookAns w (setStakeT (setStakeT b [xa, xb, 0]) [xa, xb, 0]) from by show BookAns w (setStakeT (if (([] : List Int) ≠ [] ∧ key 0 ([] : List Int) = 0) then { (setStakeT b [xa, xb, 0]) with co := -1 } else (setStakeT b [xa, xb, 0])) _) = _; rw [if_neg (fun h => h.1 rfl)]; rfl]; exact HE2.out
end Go.Proofs.YtellifcjamedkaaGreat
