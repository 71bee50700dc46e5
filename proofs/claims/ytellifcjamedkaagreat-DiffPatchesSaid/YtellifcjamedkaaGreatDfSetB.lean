/- The document's set of an order: the contract. -/
import Derived.Test.YtellifcjamedkaaGreatMSa
namespace Go.Proofs.YtellifcjamedkaaGreat
open Go.RowKit Base Base2
open List renaming getElem_toArray → lgT, getElem_cons_zero → lgZ, getElem_cons_succ → lgS, setIfInBounds_toArray → lsT, set_cons_zero → lsZ, set_cons_succ → lsS
theorem wp_load_known {P : Program} {o : Oper} {a : Act} {w : World} {K : Act → World → Prop} {Q : Exit → Act → World → Prop} (ty : TypeId) (x : Operand) (ho : o.op = .load ty x) (p v : Value) (hx : a.eval x = p) (hl : (Instr.loadAt ty p).run P w = .ok v w) (h : K (a.put o.dst v) w) : o.wp P a w K Q := by
  unfold Oper.wp execOp
  simp only [ho, hx, Sem.run_bind, Sem.run_pure, hl, Result.andThen_ok]
  exact h
set_option maxRecDepth 100000 in
set_option maxHeartbeats 16000000 in
theorem set_3y (v : Slots) (b : BookT) (A1 A2 : Option Addr) (C1 C2 nx : Nat) (xa xb : Int) (xv : List Int) (y0 y1 y2 y3 y4 : Int) (w : World) (hb : BookIn w v b) (hk : BookOk 900 b) (hy : I64s w A2 [y0, y1, y2, y3, y4]) :
    Calls Tryz.prog 35 #[.agg (cellsB v b), .agg #[.int .i64 3, .int .i64 xa, .int .i64 xb, .slice A1 nx C1, .slice A2 5 C2]] w (BookAns w (setChT b ⟨3, xa, xb, xv, [y0, y1, y2, y3, y4]⟩)) := by
  obtain ⟨XC, hXC⟩ : ∃ x : Array Value, x = #[.int .i64 3, .int .i64 xa, .int .i64 xb, .slice A1 nx C1, .slice A2 5 C2] := ⟨_, rfl⟩
  obtain ⟨W0, hW0⟩ : ∃ x, ((w.alloc (.cells (cellsB v b) 27)).alloc (.cells #[.int .i64 3, .int .i64 xa, .int .i64 xb, .slice A1 nx C1, .slice A2 5 C2] 43)).alloc (.cells #[.slice none 0 0, .slice none 0 0, .slice none 0 0, .slice none 0 0, .int .i64 0] 27) = x := ⟨_, rfl⟩
  have hA : Below w.heap.size w W0 := by rw [← hW0]; exact (((Below.refl _ w).alloc (Nat.le_refl _) _).alloc (by simp) _).alloc (by simp; omega) _
  have hN := three_new (W := w) (O := .cells (cellsB v b) 27) (P := .cells #[.int .i64 3, .int .i64 xa, .int .i64 xb, .slice A1 nx C1, .slice A2 5 C2] 43) (S := (.cells #[.slice none 0 0, .slice none 0 0, .slice none 0 0, .slice none 0 0, .int .i64 0] 27))
  rw [hW0] at hN
  have HS := Lib.hid (show SetS w XC v b W0 from ⟨hN.1, by rw [hXC]; exact hN.2.1, hN.2.2, hA, hb.below hA⟩)
  have HXC := Lib.hid hXC
  have HK := Lib.hid hk
  have xc := fun (W : World) (h : SetS w XC v b W) (i : Nat) => (cell_of_row _ _ i _ _ _ h.ch).trans (by rw [hXC] : XC[i]? = (#[.int .i64 3, .int .i64 xa, .int .i64 xb, .slice A1 nx C1, .slice A2 5 C2] : Array Value)[i]?)
  have HXX := Lib.hid (fun (v' : Slots) (b' : BookT) (W : World) (h : SetS w XC v' b' W) (i : Nat) => (cell_of_row _ _ i _ _ _ h.ch).trans (by rw [hXC] : XC[i]? = (#[.int .i64 3, .int .i64 xa, .int .i64 xb, .slice A1 nx C1, .slice A2 5 C2] : Array Value)[i]?))
  have b0 := HS.out.bx.cells.1
  have b1 := HS.out.bx.cells.2.1
  have b2 := HS.out.bx.cells.2.2.1
  have b3 := HS.out.bx.cells.2.2.2.1
  have b4 := HS.out.bx.cells.2.2.2.2
  have x0 := xc W0 HS.out 0
  have x1 := xc W0 HS.out 1
  have x2 := xc W0 HS.out 2
  have x4 := xc W0 HS.out 4
  clear xc
  obtain ⟨yg, yo, rfl, hyl, hyc⟩ := i64_cells hy (by simp)
  have HYC := Lib.hid (fun (W : World) (h : Below w.heap.size w W) => hyc W h)
  have z0 := HYC.out W0 HS.out.lo 0 y0 rfl
  have z1 := HYC.out W0 HS.out.lo 1 y1 rfl
  have z2 := HYC.out W0 HS.out.lo 2 y2 rfl
  have z3 := HYC.out W0 HS.out.lo 3 y3 rfl
  have z4 := HYC.out W0 HS.out.lo 4 y4 rfl
  rw [Nat.add_zero] at z0
  have HYF := Lib.hid (fun (W1 W : World) (h1 : Below w.heap.size w W1) (h : FrX w.heap.size W1 W) (i : Nat) (z : Int) (hz : ([y0, y1, y2, y3, y4] : List Int)[i]? = some z) => show W.cell? ⟨yg, yo + i, none⟩ = some (.int .i64 z) by
    rw [h.cellX (by omega) (Nat.lt_of_lt_of_le hyl h1.size)]; exact hyc W1 h1 i z hz)
  clear hy hyc hyl
  clear hb hk hXC hA hN
  obtain ⟨CB, hCB⟩ : ∃ x, cellsB v b = x := ⟨_, rfl⟩
  have HCB := Lib.hid hCB
  rw [hCB] at hW0 ⊢
  clear hCB
  by_cases h0 : y3 = 0
  · have H5 := Lib.hid (HS.out.cell (v' := v) (b' := { b with co := -1 }) (i := 4) (u := .int .i64 (-1)) (in_co HS.out.inn) (len_co (len_ok HK.out)) (by simp [cellsB]))
    have hfz := free_of_blkN HS.out.bx 4
    have gy : (y3 == 0) = true := by simpa using h0
    have HY3 := Lib.hid h0
    clear h0
    go_enter Tryz.func35, Tryz.ntmps35
    go_upto_region 23 with (fail)
    obtain ⟨W1, hW1⟩ : ∃ x, W0.setCell ⟨w.heap.size, 4, none⟩ (.int .i64 (-1)) = x := ⟨_, rfl⟩
    rw [hW1] at H5 ⊢
    clear hW1 b0 b1 b2 b3 b4 x0 x1 x2 x4 z0 z1 z2 z3 z4 hfz
    have HF := Lib.hid (show BookAns w (setChT b ⟨3, xa, xb, xv, [y0, y1, y2, y3, y4]⟩) = BookAns w (setOpenT ({ b with co := -1 } : BookT) [xa, y0, y1, y2, y3, y4]) from by show BookAns w (setOpenT (if ([y0, y1, y2, y3, y4] : List Int) ≠ [] ∧ y3 = 0 then { b with co := -1 } else b) _) = _; rw [if_pos ⟨by simp, HY3.out⟩]; rfl)
    have HCX := Lib.hid (fun W (h : FrX w.heap.size W1 W) (i : Nat) => (cell_of_row _ _ i _ _ _ (h.same _ _ (by omega) H5.out.ch)).trans (by rw [HXC.out] : XC[i]? = (#[.int .i64 3, .int .i64 xa, .int .i64 xb, .slice A1 nx C1, .slice (some ⟨yg, yo, none⟩) 5 C2] : Array Value)[i]?))
    have HYX := Lib.hid (fun W (h : FrX w.heap.size W1 W) => (fun i => HYF.out W1 W H5.out.lo h i))
    have HCT := Lib.hid (fun W (h : Below W1.heap.size W1 W) => setopen29 v ({ b with co := -1 } : BookT) xa y0 y1 y2 y3 y4 W (H5.out.inn.below h) (HK.out.os.le (by omega)))
    have hlk : LenB (setOpenT ({ b with co := -1 } : BookT) [xa, y0, y1, y2, y3, y4]) := len_open (len_co (len_ok HK.out)) rfl
    go_upto_region 23 with (fail)
    refine wp_region_held_drew (S := fun W => FrX w.heap.size W1 W) (by kernel_rfl) (FrX.below ((Below.refl _ _).drew)) (fun hS => ?_)
    refine wpAnyH_take (i := 1) (v := .pointer (some ⟨w.heap.size + 1, 1, none⟩)) rfl (by kernel_rfl) (by kernel_rfl) (by kernel_rfl) (fun _ _ _ h => h) (Or.inl ⟨by simp [Region.wanted], fun W _ => by go_simp⟩) hS ?_
    simp only [lgT, lgZ, lgS, Act.put, lsT, lsZ, lsS]
    refine wpAnyH_take (i := 2) (v := .int .i64 xa) rfl (by kernel_rfl) (by kernel_rfl) (by kernel_rfl) (fun _ _ _ h => h) (Or.inl ⟨by simp [Region.wanted], fun W hW => by have kc := HCX.out W hW 1; go_simp⟩) hS ?_
    simp only [lgT, lgZ, lgS, Act.put, lsT, lsZ, lsS]
    refine wpAnyH_take (i := 3) (v := .slice (some ⟨yg, yo, none⟩) 5 C2) rfl (by kernel_rfl) (by kernel_rfl) (by kernel_rfl) (fun _ _ _ h => h) (Or.inl ⟨by simp [Region.wanted], fun W _ => by go_simp⟩) hS ?_
    simp only [lgT, lgZ, lgS, Act.put, lsT, lsZ, lsS]
    refine wpAnyH_take (i := 4) (v := .pointer (some ⟨yg, yo, none⟩)) rfl (by kernel_rfl) (by kernel_rfl) (by kernel_rfl) (fun _ _ _ h => h) (Or.inl ⟨by simp [Region.wanted], fun W _ => by go_simp⟩) hS ?_
    simp only [lgT, lgZ, lgS, Act.put, lsT, lsZ, lsS]
    refine wpAnyH_take (i := 5) (v := .int .i64 y0) rfl (by kernel_rfl) (by kernel_rfl) (by kernel_rfl) (fun _ _ _ h => h) (Or.inl ⟨by simp [Region.wanted], fun W hW => by have kz := HYX.out W hW 0; rw [Nat.add_zero] at kz; go_simp⟩) hS ?_
    simp only [lgT, lgZ, lgS, Act.put, lsT, lsZ, lsS]
    refine wpAnyH_take (i := 6) (v := .slice (some ⟨yg, yo, none⟩) 5 C2) rfl (by kernel_rfl) (by kernel_rfl) (by kernel_rfl) (fun _ _ _ h => h) (Or.inl ⟨by simp [Region.wanted], fun W _ => by go_simp⟩) hS ?_
    simp only [lgT, lgZ, lgS, Act.put, lsT, lsZ, lsS]
    refine wpAnyH_take (i := 7) (v := .pointer (some ⟨yg, yo + 1, none⟩)) rfl (by kernel_rfl) (by kernel_rfl) (by kernel_rfl) (fun _ _ _ h => h) (Or.inl ⟨by simp [Region.wanted], fun W _ => by go_simp⟩) hS ?_
    simp only [lgT, lgZ, lgS, Act.put, lsT, lsZ, lsS]
    refine wpAnyH_take (i := 8) (v := .int .i64 y1) rfl (by kernel_rfl) (by kernel_rfl) (by kernel_rfl) (fun _ _ _ h => h) (Or.inl ⟨by simp [Region.wanted], fun W hW => by have kz := HYX.out W hW 1; go_simp⟩) hS ?_
    simp only [lgT, lgZ, lgS, Act.put, lsT, lsZ, lsS]
    refine wpAnyH_take (i := 9) (v := .slice (some ⟨yg, yo, none⟩) 5 C2) rfl (by kernel_rfl) (by kernel_rfl) (by kernel_rfl) (fun _ _ _ h => h) (Or.inl ⟨by simp [Region.wanted], fun W _ => by go_simp⟩) hS ?_
    simp only [lgT, lgZ, lgS, Act.put, lsT, lsZ, lsS]
    refine wpAnyH_take (i := 10) (v := .pointer (some ⟨yg, yo + 2, none⟩)) rfl (by kernel_rfl) (by kernel_rfl) (by kernel_rfl) (fun _ _ _ h => h) (Or.inl ⟨by simp [Region.wanted], fun W _ => by go_simp⟩) hS ?_
    simp only [lgT, lgZ, lgS, Act.put, lsT, lsZ, lsS]
    refine wpAnyH_take (i := 11) (v := .int .i64 y2) rfl (by kernel_rfl) (by kernel_rfl) (by kernel_rfl) (fun _ _ _ h => h) (Or.inl ⟨by simp [Region.wanted], fun W hW => by have kz := HYX.out W hW 2; go_simp⟩) hS ?_
    simp only [lgT, lgZ, lgS, Act.put, lsT, lsZ, lsS]
    refine wpAnyH_take (i := 12) (v := .slice (some ⟨yg, yo, none⟩) 5 C2) rfl (by kernel_rfl) (by kernel_rfl) (by kernel_rfl) (fun _ _ _ h => h) (Or.inl ⟨by simp [Region.wanted], fun W _ => by go_simp⟩) hS ?_
    simp only [lgT, lgZ, lgS, Act.put, lsT, lsZ, lsS]
    refine wpAnyH_take (i := 13) (v := .pointer (some ⟨yg, yo + 3, none⟩)) rfl (by kernel_rfl) (by kernel_rfl) (by kernel_rfl) (fun _ _ _ h => h) (Or.inl ⟨by simp [Region.wanted], fun W _ => by go_simp⟩) hS ?_
    simp only [lgT, lgZ, lgS, Act.put, lsT, lsZ, lsS]
    refine wpAnyH_take (i := 14) (v := .int .i64 y3) rfl (by kernel_rfl) (by kernel_rfl) (by kernel_rfl) (fun _ _ _ h => h) (Or.inl ⟨by simp [Region.wanted], fun W hW => by have kz := HYX.out W hW 3; go_simp⟩) hS ?_
    simp only [lgT, lgZ, lgS, Act.put, lsT, lsZ, lsS]
    refine wpAnyH_take (i := 15) (v := .slice (some ⟨yg, yo, none⟩) 5 C2) rfl (by kernel_rfl) (by kernel_rfl) (by kernel_rfl) (fun _ _ _ h => h) (Or.inl ⟨by simp [Region.wanted], fun W _ => by go_simp⟩) hS ?_
    simp only [lgT, lgZ, lgS, Act.put, lsT, lsZ, lsS]
    refine wpAnyH_take (i := 16) (v := .pointer (some ⟨yg, yo + 4, none⟩)) rfl (by kernel_rfl) (by kernel_rfl) (by kernel_rfl) (fun _ _ _ h => h) (Or.inl ⟨by simp [Region.wanted], fun W _ => by go_simp⟩) hS ?_
    simp only [lgT, lgZ, lgS, Act.put, lsT, lsZ, lsS]
    refine wpAnyH_take (i := 17) (v := .int .i64 y4) rfl (by kernel_rfl) (by kernel_rfl) (by kernel_rfl) (fun _ _ _ h => h) (Or.inl ⟨by simp [Region.wanted], fun W hW => by have kz := HYX.out W hW 4; go_simp⟩) hS ?_
    simp only [lgT, lgZ, lgS, Act.put, lsT, lsZ, lsS]
    refine wpAnyH_take (i := 18) (v := .agg #[.int .i64 xa, .int .i64 y0, .int .i64 y1, .int .i64 y2, .int .i64 y3, .int .i64 y4]) rfl (by kernel_rfl) (by kernel_rfl) (by kernel_rfl) (fun _ _ _ h => h) (Or.inl ⟨by simp [Region.wanted], fun W _ => by go_simp⟩) hS ?_
    simp only [lgT, lgZ, lgS, Act.put, lsT, lsZ, lsS]
    refine wpAnyH_ready (rs := [0]) (by kernel_rfl) (by simp) ?_
    refine AllReadyH.cons rfl (fun K0 hK0 => ?_) AllReadyH.nil
    refine wanted_go rfl ?_
    simp only [lgT, lgZ]
    have hld0 := load_book (W := W1.drew) (show BoxB W1.drew w.heap.size v ({ b with co := -1 } : BookT) from H5.out.bx)
    refine wp_load_known 27 (.tmp 2) rfl (.pointer (some ⟨w.heap.size, 0, none⟩)) _ rfl hld0 ?_
    refine hK0.out _ _ (FrX.below ((Below.refl _ _).drew)) (fun q0 => ?_)
    refine wpAnyH_ready (rs := [19]) (by kernel_rfl) (by simp) ?_
    refine AllReadyH.cons rfl (fun K1 hK1 => ?_) AllReadyH.nil
    refine wanted_go rfl ?_
    simp only [lgT, lgZ, lgS]
    go_wp2_with (go_at_call 63; refine (HCT.out W1.drew ((Below.refl _ _).drew)).mono ?_; rintro e w9 ⟨⟨v9, rfl, hi9⟩, hb9⟩; have HI9 := Lib.hid hi9; have HB9 := Lib.hid (((Below.refl _ W1).drew : Below W1.heap.size W1 W1.drew).trans hb9); clear hi9 hb9)
    refine hK1.out _ _ (FrX.below HB9.out) (fun q1 => ?_)
    have hs9 := H5.out.below HB9.out
    refine wpAnyH_ready (rs := [20]) (by kernel_rfl) (by simp) ?_
    refine AllReadyH.cons rfl (fun K2 hK2 => ?_) AllReadyH.nil
    refine wanted_go rfl ?_
    simp only [lgT, lgZ, lgS]
    refine wp_store_row 27 (.tmp 2) (.tmp 126) rfl w.heap.size (cellsB v9 (setOpenT ({ b with co := -1 } : BookT) [xa, y0, y1, y2, y3, y4])) rfl rfl 27 _ hs9.bx info27 rfl (by simp [cellsB, Value.oneCell']) ?_
    refine hK2.out _ _ ((FrX.below HB9.out).trans (FrX.row _)) (fun q2 => ?_)
    refine wpAnyH_done (by kernel_rfl) ?_ _
    have HSE := Lib.hid (hs9.put HI9.out (hlk))
    clear hs9 q0 q1 q2 hld0 hS
    go_upto_region 37 with (fail)
    have HLD := Lib.hid (load_book HSE.out.bx)
    obtain ⟨e1, e2⟩ := set_end HSE.out.lo HSE.out.inn hlk HSE.out.rz
    have HE1 := Lib.hid e1
    have HE2 := Lib.hid e2
    have HRZ := Lib.hid HSE.out.rz
    clear e1 e2
    go_wp2_with (first | ((with_reducible refine atLoadS (ty := 27) (x := .tmp 2) rfl ?_); refine loadE (by rfl) 27 (.tmp 2) rfl _ (.agg (cellsB v9 (setOpenT ({ b with co := -1 } : BookT) [xa, y0, y1, y2, y3, y4]))) rfl HLD.out ?_) | ((with_reducible refine atStoreP (ty := 27) (x := .tmp 4) (y := .tmp 176) rfl ?_); refine wpList_store_row rfl 27 (.tmp 4) (.tmp 176) rfl (w.heap.size + 2) (cellsB v9 (setOpenT ({ b with co := -1 } : BookT) [xa, y0, y1, y2, y3, y4])) rfl rfl 27 _ HRZ.out info27 rfl (by simp [cellsB, Value.oneCell']) ?_))
    refine ret_cell rfl rfl rfl HE1.out Tryz.underlying27 rfl info27 ?_
    rw [HF.out]; exact HE2.out
  · have gy : (y3 == 0) = false := by simpa using h0
    have HY3 := Lib.hid h0
    clear h0
    go_enter Tryz.func35, Tryz.ntmps35
    go_upto_region 23 with (fail)
    clear b0 b1 b2 b3 b4 x0 x1 x2 x4 z0 z1 z2 z3 z4 hW0
    have HF := Lib.hid (show BookAns w (setChT b ⟨3, xa, xb, xv, [y0, y1, y2, y3, y4]⟩) = BookAns w (setOpenT b [xa, y0, y1, y2, y3, y4]) from by show BookAns w (setOpenT (if ([y0, y1, y2, y3, y4] : List Int) ≠ [] ∧ y3 = 0 then { b with co := -1 } else b) _) = _; rw [if_neg (fun h => HY3.out h.2)]; rfl)
    have HCX := Lib.hid (fun W (h : FrX w.heap.size W0 W) (i : Nat) => (cell_of_row _ _ i _ _ _ (h.same _ _ (by omega) HS.out.ch)).trans (by rw [HXC.out] : XC[i]? = (#[.int .i64 3, .int .i64 xa, .int .i64 xb, .slice A1 nx C1, .slice (some ⟨yg, yo, none⟩) 5 C2] : Array Value)[i]?))
    have HYX := Lib.hid (fun W (h : FrX w.heap.size W0 W) => (fun i => HYF.out W0 W HS.out.lo h i))
    have HCT := Lib.hid (fun W (h : Below W0.heap.size W0 W) => setopen29 v b xa y0 y1 y2 y3 y4 W (HS.out.inn.below h) (HK.out.os.le (by omega)))
    have hlk : LenB (setOpenT b [xa, y0, y1, y2, y3, y4]) := len_open (len_ok HK.out) rfl
    go_upto_region 23 with (fail)
    refine wp_region_held_drew (S := fun W => FrX w.heap.size W0 W) (by kernel_rfl) (FrX.below ((Below.refl _ _).drew)) (fun hS => ?_)
    refine wpAnyH_take (i := 1) (v := .pointer (some ⟨w.heap.size + 1, 1, none⟩)) rfl (by kernel_rfl) (by kernel_rfl) (by kernel_rfl) (fun _ _ _ h => h) (Or.inl ⟨by simp [Region.wanted], fun W _ => by go_simp⟩) hS ?_
    simp only [lgT, lgZ, lgS, Act.put, lsT, lsZ, lsS]
    refine wpAnyH_take (i := 2) (v := .int .i64 xa) rfl (by kernel_rfl) (by kernel_rfl) (by kernel_rfl) (fun _ _ _ h => h) (Or.inl ⟨by simp [Region.wanted], fun W hW => by have kc := HCX.out W hW 1; go_simp⟩) hS ?_
    simp only [lgT, lgZ, lgS, Act.put, lsT, lsZ, lsS]
    refine wpAnyH_take (i := 3) (v := .slice (some ⟨yg, yo, none⟩) 5 C2) rfl (by kernel_rfl) (by kernel_rfl) (by kernel_rfl) (fun _ _ _ h => h) (Or.inl ⟨by simp [Region.wanted], fun W _ => by go_simp⟩) hS ?_
    simp only [lgT, lgZ, lgS, Act.put, lsT, lsZ, lsS]
    refine wpAnyH_take (i := 4) (v := .pointer (some ⟨yg, yo, none⟩)) rfl (by kernel_rfl) (by kernel_rfl) (by kernel_rfl) (fun _ _ _ h => h) (Or.inl ⟨by simp [Region.wanted], fun W _ => by go_simp⟩) hS ?_
    simp only [lgT, lgZ, lgS, Act.put, lsT, lsZ, lsS]
    refine wpAnyH_take (i := 5) (v := .int .i64 y0) rfl (by kernel_rfl) (by kernel_rfl) (by kernel_rfl) (fun _ _ _ h => h) (Or.inl ⟨by simp [Region.wanted], fun W hW => by have kz := HYX.out W hW 0; rw [Nat.add_zero] at kz; go_simp⟩) hS ?_
    simp only [lgT, lgZ, lgS, Act.put, lsT, lsZ, lsS]
    refine wpAnyH_take (i := 6) (v := .slice (some ⟨yg, yo, none⟩) 5 C2) rfl (by kernel_rfl) (by kernel_rfl) (by kernel_rfl) (fun _ _ _ h => h) (Or.inl ⟨by simp [Region.wanted], fun W _ => by go_simp⟩) hS ?_
    simp only [lgT, lgZ, lgS, Act.put, lsT, lsZ, lsS]
    refine wpAnyH_take (i := 7) (v := .pointer (some ⟨yg, yo + 1, none⟩)) rfl (by kernel_rfl) (by kernel_rfl) (by kernel_rfl) (fun _ _ _ h => h) (Or.inl ⟨by simp [Region.wanted], fun W _ => by go_simp⟩) hS ?_
    simp only [lgT, lgZ, lgS, Act.put, lsT, lsZ, lsS]
    refine wpAnyH_take (i := 8) (v := .int .i64 y1) rfl (by kernel_rfl) (by kernel_rfl) (by kernel_rfl) (fun _ _ _ h => h) (Or.inl ⟨by simp [Region.wanted], fun W hW => by have kz := HYX.out W hW 1; go_simp⟩) hS ?_
    simp only [lgT, lgZ, lgS, Act.put, lsT, lsZ, lsS]
    refine wpAnyH_take (i := 9) (v := .slice (some ⟨yg, yo, none⟩) 5 C2) rfl (by kernel_rfl) (by kernel_rfl) (by kernel_rfl) (fun _ _ _ h => h) (Or.inl ⟨by simp [Region.wanted], fun W _ => by go_simp⟩) hS ?_
    simp only [lgT, lgZ, lgS, Act.put, lsT, lsZ, lsS]
    refine wpAnyH_take (i := 10) (v := .pointer (some ⟨yg, yo + 2, none⟩)) rfl (by kernel_rfl) (by kernel_rfl) (by kernel_rfl) (fun _ _ _ h => h) (Or.inl ⟨by simp [Region.wanted], fun W _ => by go_simp⟩) hS ?_
    simp only [lgT, lgZ, lgS, Act.put, lsT, lsZ, lsS]
    refine wpAnyH_take (i := 11) (v := .int .i64 y2) rfl (by kernel_rfl) (by kernel_rfl) (by kernel_rfl) (fun _ _ _ h => h) (Or.inl ⟨by simp [Region.wanted], fun W hW => by have kz := HYX.out W hW 2; go_simp⟩) hS ?_
    simp only [lgT, lgZ, lgS, Act.put, lsT, lsZ, lsS]
    refine wpAnyH_take (i := 12) (v := .slice (some ⟨yg, yo, none⟩) 5 C2) rfl (by kernel_rfl) (by kernel_rfl) (by kernel_rfl) (fun _ _ _ h => h) (Or.inl ⟨by simp [Region.wanted], fun W _ => by go_simp⟩) hS ?_
    simp only [lgT, lgZ, lgS, Act.put, lsT, lsZ, lsS]
    refine wpAnyH_take (i := 13) (v := .pointer (some ⟨yg, yo + 3, none⟩)) rfl (by kernel_rfl) (by kernel_rfl) (by kernel_rfl) (fun _ _ _ h => h) (Or.inl ⟨by simp [Region.wanted], fun W _ => by go_simp⟩) hS ?_
    simp only [lgT, lgZ, lgS, Act.put, lsT, lsZ, lsS]
    refine wpAnyH_take (i := 14) (v := .int .i64 y3) rfl (by kernel_rfl) (by kernel_rfl) (by kernel_rfl) (fun _ _ _ h => h) (Or.inl ⟨by simp [Region.wanted], fun W hW => by have kz := HYX.out W hW 3; go_simp⟩) hS ?_
    simp only [lgT, lgZ, lgS, Act.put, lsT, lsZ, lsS]
    refine wpAnyH_take (i := 15) (v := .slice (some ⟨yg, yo, none⟩) 5 C2) rfl (by kernel_rfl) (by kernel_rfl) (by kernel_rfl) (fun _ _ _ h => h) (Or.inl ⟨by simp [Region.wanted], fun W _ => by go_simp⟩) hS ?_
    simp only [lgT, lgZ, lgS, Act.put, lsT, lsZ, lsS]
    refine wpAnyH_take (i := 16) (v := .pointer (some ⟨yg, yo + 4, none⟩)) rfl (by kernel_rfl) (by kernel_rfl) (by kernel_rfl) (fun _ _ _ h => h) (Or.inl ⟨by simp [Region.wanted], fun W _ => by go_simp⟩) hS ?_
    simp only [lgT, lgZ, lgS, Act.put, lsT, lsZ, lsS]
    refine wpAnyH_take (i := 17) (v := .int .i64 y4) rfl (by kernel_rfl) (by kernel_rfl) (by kernel_rfl) (fun _ _ _ h => h) (Or.inl ⟨by simp [Region.wanted], fun W hW => by have kz := HYX.out W hW 4; go_simp⟩) hS ?_
    simp only [lgT, lgZ, lgS, Act.put, lsT, lsZ, lsS]
    refine wpAnyH_take (i := 18) (v := .agg #[.int .i64 xa, .int .i64 y0, .int .i64 y1, .int .i64 y2, .int .i64 y3, .int .i64 y4]) rfl (by kernel_rfl) (by kernel_rfl) (by kernel_rfl) (fun _ _ _ h => h) (Or.inl ⟨by simp [Region.wanted], fun W _ => by go_simp⟩) hS ?_
    simp only [lgT, lgZ, lgS, Act.put, lsT, lsZ, lsS]
    refine wpAnyH_ready (rs := [0]) (by kernel_rfl) (by simp) ?_
    refine AllReadyH.cons rfl (fun K0 hK0 => ?_) AllReadyH.nil
    refine wanted_go rfl ?_
    simp only [lgT, lgZ]
    have hld0 := load_book (W := W0.drew) (show BoxB W0.drew w.heap.size v b from HS.out.bx)
    refine wp_load_known 27 (.tmp 2) rfl (.pointer (some ⟨w.heap.size, 0, none⟩)) _ rfl hld0 ?_
    refine hK0.out _ _ (FrX.below ((Below.refl _ _).drew)) (fun q0 => ?_)
    refine wpAnyH_ready (rs := [19]) (by kernel_rfl) (by simp) ?_
    refine AllReadyH.cons rfl (fun K1 hK1 => ?_) AllReadyH.nil
    refine wanted_go rfl ?_
    simp only [lgT, lgZ, lgS]
    go_wp2_with (go_at_call 63; refine (HCT.out W0.drew ((Below.refl _ _).drew)).mono ?_; rintro e w9 ⟨⟨v9, rfl, hi9⟩, hb9⟩; have HI9 := Lib.hid hi9; have HB9 := Lib.hid (((Below.refl _ W0).drew : Below W0.heap.size W0 W0.drew).trans hb9); clear hi9 hb9)
    refine hK1.out _ _ (FrX.below HB9.out) (fun q1 => ?_)
    have hs9 := HS.out.below HB9.out
    refine wpAnyH_ready (rs := [20]) (by kernel_rfl) (by simp) ?_
    refine AllReadyH.cons rfl (fun K2 hK2 => ?_) AllReadyH.nil
    refine wanted_go rfl ?_
    simp only [lgT, lgZ, lgS]
    refine wp_store_row 27 (.tmp 2) (.tmp 126) rfl w.heap.size (cellsB v9 (setOpenT b [xa, y0, y1, y2, y3, y4])) rfl rfl 27 _ hs9.bx info27 rfl (by simp [cellsB, Value.oneCell']) ?_
    refine hK2.out _ _ ((FrX.below HB9.out).trans (FrX.row _)) (fun q2 => ?_)
    refine wpAnyH_done (by kernel_rfl) ?_ _
    have HSE := Lib.hid (hs9.put HI9.out (hlk))
    clear hs9 q0 q1 q2 hld0 hS
    go_upto_region 37 with (fail)
    have HLD := Lib.hid (load_book HSE.out.bx)
    obtain ⟨e1, e2⟩ := set_end HSE.out.lo HSE.out.inn hlk HSE.out.rz
    have HE1 := Lib.hid e1
    have HE2 := Lib.hid e2
    have HRZ := Lib.hid HSE.out.rz
    clear e1 e2
    go_wp2_with (first | ((with_reducible refine atLoadS (ty := 27) (x := .tmp 2) rfl ?_); refine loadE (by rfl) 27 (.tmp 2) rfl _ (.agg (cellsB v9 (setOpenT b [xa, y0, y1, y2, y3, y4]))) rfl HLD.out ?_) | ((with_reducible refine atStoreP (ty := 27) (x := .tmp 4) (y := .tmp 176) rfl ?_); refine wpList_store_row rfl 27 (.tmp 4) (.tmp 176) rfl (w.heap.size + 2) (cellsB v9 (setOpenT b [xa, y0, y1, y2, y3, y4])) rfl rfl 27 _ HRZ.out info27 rfl (by simp [cellsB, Value.oneCell']) ?_))
    refine ret_cell rfl rfl rfl HE1.out Tryz.underlying27 rfl info27 ?_
    rw [HF.out]; exact HE2.out
end Go.Proofs.YtellifcjamedkaaGreat
