/- The program's find: contracts. -/
import Derived.Test.YtellifcjamedkaaBkQ2
namespace Go.Proofs.Ytellifcjamedkaa
open Go.RowKit Base Base2

def valI (k : Nat) (R : Option Item) : Value := match R with | some x => aggI x | none => aggI (List.replicate k 0)

set_option maxRecDepth 100000 in
set_option maxHeartbeats 4000000 in
theorem findHolder (a : Option Addr) (c : Nat) (L : List Item) (id : Int) (w : World) (hr : RowsOf 4 w a L) (hk : ItemsOk 4 2000 L) (hs : riseL lt1 L = true) :
    Calls Try.prog 88 #[.slice a L.length c, .int .i64 id, .func (.func 63) #[] #[]] w fun e w' => e = .returned (.tuple #[valI 4 (findL (is1 id) L), .bool (findL (is1 id) L).isSome]) ∧ Below w.heap.size w w' := by
  have HS := Lib.hid (fun W (h : Below w.heap.size w W) => placeHolder a c L id W (hr.below h) hk hs)
  have HROW := Lib.hid hr
  have hkl := hk.1
  have HK := Lib.hid hk.2
  have hpl := posL_le (c1 id) L
  have hf := find_pos (mono1 id) (is1_c id) hs
  rw [hf]
  have hlt := @foundL_lt (c1 id) L
  clear hr hk hs hf
  generalize foundL (c1 id) L = FO at *
  generalize posL (c1 id) L = PO at *
  obtain ⟨R, hR⟩ : ∃ R, (if FO = true then L[PO]? else none) = R := ⟨_, rfl⟩
  rw [hR]
  have HR := Lib.hid hR
  clear hR
  obtain ⟨W0, hW0⟩ : ∃ W, w.alloc (.cells #[.int .i64 0, .int .i64 0, .int .i64 0, .int .i64 0] 64) = W := ⟨_, rfl⟩
  have HB := Lib.hid (show Below w.heap.size w W0 by rw [← hW0]; exact (Below.refl _ w).alloc (Nat.le_refl _) _)
  have HSZ := Lib.hid (show W0.heap.size = w.heap.size + 1 by rw [← hW0]; simp)
  have HG := Lib.hid (show ∀ W, Below (w.heap.size + 1) W0 W → W.heap[w.heap.size]? = some (.cells #[.int .i64 0, .int .i64 0, .int .i64 0, .int .i64 0] 64 (0, 0)) from fun W h => (h.block _ (by omega)).trans (by rw [← hW0]; exact heap_alloc_new w _))
  cases FO with
  | true =>
    have hlt := hlt rfl
    obtain ⟨x, hx⟩ : ∃ x, L[PO]? = some x := ⟨L[PO], by simp [hlt]⟩
    have HX := Lib.hid (HR.out.symm.trans ((if_pos rfl).trans hx))
    obtain ⟨b0, off, rfl, hb0, hcs⟩ := HROW.out.at hx
    obtain ⟨p, q, r, s, rfl⟩ := item4 (HK.out _ (List.mem_of_getElem? hx)).1
    have HCS := Lib.hid hcs
    clear hcs hx HR
    go_enter Try.func88, Try.ntmps88
    go_wp2_with (first | ((with_reducible refine atStore (ty := 64) (x := .tmp 6) (y := .tmp 24) rfl ?_); refine wpList_store_row rfl 64 (.tmp 6) (.tmp 24) rfl w.heap.size #[.int .i64 p, .int .i64 q, .int .i64 r, .int .i64 s] rfl rfl 64 #[.int .i64 0, .int .i64 0, .int .i64 0, .int .i64 0] (HG.out _ HY.out) info33 rfl (by simp [Value.oneCell']) ?_) | (go_at_call 91; refine (HS.out _ HB.out).mono ?_; rintro e y ⟨rfl, hy⟩; have HY := Lib.hid (show Below (w.heap.size + 1) W0 y from hy.mono (by rw [HSZ.out]; exact Nat.le_refl _)); have HYW := Lib.hid (HB.out.trans (hy.mono HB.out.size)); have m0 := HCS.out y HYW.out 0 p rfl; have m1 := HCS.out y HYW.out 1 q rfl; have m2 := HCS.out y HYW.out 2 r rfl; have m3 := HCS.out y HYW.out 3 s rfl; rw [Nat.add_zero] at m0))
    refine ret_cell_tmp rfl rfl rfl rfl (setRow_heap _ _ _ _ _ _ (HG.out _ HY.out)) Try.underlying64 rfl info33 ?_
    rw [HX.out]
    exact ⟨rfl, below_row1 HYW.out (by omega)⟩
  | false =>
    have HX := Lib.hid (HR.out.symm.trans (if_neg (by simp)))
    clear HR
    go_enter Try.func88, Try.ntmps88
    go_wp2_with (first | ((with_reducible refine atStore (ty := 64) (x := .tmp 6) (y := .tmp 20) rfl ?_); refine wpList_store_row rfl 64 (.tmp 6) (.tmp 20) rfl w.heap.size #[.int .i64 0, .int .i64 0, .int .i64 0, .int .i64 0] rfl rfl 64 #[.int .i64 0, .int .i64 0, .int .i64 0, .int .i64 0] (HG.out _ (HY.out.alloc HYS.out _)) info33 rfl (by simp [Value.oneCell']) ?_) | (go_at_call 91; refine (HS.out _ HB.out).mono ?_; rintro e y ⟨rfl, hy⟩; have HY := Lib.hid (show Below (w.heap.size + 1) W0 y from hy.mono (by rw [HSZ.out]; exact Nat.le_refl _)); have HYS := Lib.hid (show w.heap.size + 1 ≤ y.heap.size by have h1 := hy.size; rw [HSZ.out] at h1; exact h1); have HYW := Lib.hid (HB.out.trans (hy.mono HB.out.size))))
    refine ret_cell_tmp rfl rfl rfl rfl (setRow_heap _ _ _ _ _ _ (HG.out _ (HY.out.alloc HYS.out _))) Try.underlying64 rfl info33 ?_
    rw [HX.out]
    exact ⟨rfl, below_row1 (HYW.out.alloc (Nat.le_trans (by omega) HYS.out) _) (by omega)⟩

set_option maxRecDepth 100000 in
set_option maxHeartbeats 4000000 in
theorem findRate (a : Option Addr) (c : Nat) (L : List Item) (id : Int) (w : World) (hr : RowsOf 2 w a L) (hk : ItemsOk 2 2000 L) (hs : riseL lt1 L = true) :
    Calls Try.prog 89 #[.slice a L.length c, .int .i64 id, .func (.func 72) #[] #[]] w fun e w' => e = .returned (.tuple #[valI 2 (findL (is1 id) L), .bool (findL (is1 id) L).isSome]) ∧ Below w.heap.size w w' := by
  have HS := Lib.hid (fun W (h : Below w.heap.size w W) => placeRate a c L id W (hr.below h) hk hs)
  have HROW := Lib.hid hr
  have hkl := hk.1
  have HK := Lib.hid hk.2
  have hpl := posL_le (c1 id) L
  have hf := find_pos (mono1 id) (is1_c id) hs
  rw [hf]
  have hlt := @foundL_lt (c1 id) L
  clear hr hk hs hf
  generalize foundL (c1 id) L = FO at *
  generalize posL (c1 id) L = PO at *
  obtain ⟨R, hR⟩ : ∃ R, (if FO = true then L[PO]? else none) = R := ⟨_, rfl⟩
  rw [hR]
  have HR := Lib.hid hR
  clear hR
  obtain ⟨W0, hW0⟩ : ∃ W, w.alloc (.cells #[.int .i64 0, .int .i64 0] 44) = W := ⟨_, rfl⟩
  have HB := Lib.hid (show Below w.heap.size w W0 by rw [← hW0]; exact (Below.refl _ w).alloc (Nat.le_refl _) _)
  have HSZ := Lib.hid (show W0.heap.size = w.heap.size + 1 by rw [← hW0]; simp)
  have HG := Lib.hid (show ∀ W, Below (w.heap.size + 1) W0 W → W.heap[w.heap.size]? = some (.cells #[.int .i64 0, .int .i64 0] 44 (0, 0)) from fun W h => (h.block _ (by omega)).trans (by rw [← hW0]; exact heap_alloc_new w _))
  cases FO with
  | true =>
    have hlt := hlt rfl
    obtain ⟨x, hx⟩ : ∃ x, L[PO]? = some x := ⟨L[PO], by simp [hlt]⟩
    have HX := Lib.hid (HR.out.symm.trans ((if_pos rfl).trans hx))
    obtain ⟨b0, off, rfl, hb0, hcs⟩ := HROW.out.at hx
    obtain ⟨p, q, rfl⟩ := item2 (HK.out _ (List.mem_of_getElem? hx)).1
    have HCS := Lib.hid hcs
    clear hcs hx HR
    go_enter Try.func89, Try.ntmps89
    go_wp2_with (first | ((with_reducible refine atStore (ty := 44) (x := .tmp 6) (y := .tmp 24) rfl ?_); refine wpList_store_row rfl 44 (.tmp 6) (.tmp 24) rfl w.heap.size #[.int .i64 p, .int .i64 q] rfl rfl 44 #[.int .i64 0, .int .i64 0] (HG.out _ HY.out) info47 rfl (by simp [Value.oneCell']) ?_) | (go_at_call 92; refine (HS.out _ HB.out).mono ?_; rintro e y ⟨rfl, hy⟩; have HY := Lib.hid (show Below (w.heap.size + 1) W0 y from hy.mono (by rw [HSZ.out]; exact Nat.le_refl _)); have HYW := Lib.hid (HB.out.trans (hy.mono HB.out.size)); have m0 := HCS.out y HYW.out 0 p rfl; have m1 := HCS.out y HYW.out 1 q rfl; rw [Nat.add_zero] at m0))
    refine ret_cell_tmp rfl rfl rfl rfl (setRow_heap _ _ _ _ _ _ (HG.out _ HY.out)) Try.underlying44 rfl info47 ?_
    rw [HX.out]
    exact ⟨rfl, below_row1 HYW.out (by omega)⟩
  | false =>
    have HX := Lib.hid (HR.out.symm.trans (if_neg (by simp)))
    clear HR
    go_enter Try.func89, Try.ntmps89
    go_wp2_with (first | ((with_reducible refine atStore (ty := 44) (x := .tmp 6) (y := .tmp 20) rfl ?_); refine wpList_store_row rfl 44 (.tmp 6) (.tmp 20) rfl w.heap.size #[.int .i64 0, .int .i64 0] rfl rfl 44 #[.int .i64 0, .int .i64 0] (HG.out _ (HY.out.alloc HYS.out _)) info47 rfl (by simp [Value.oneCell']) ?_) | (go_at_call 92; refine (HS.out _ HB.out).mono ?_; rintro e y ⟨rfl, hy⟩; have HY := Lib.hid (show Below (w.heap.size + 1) W0 y from hy.mono (by rw [HSZ.out]; exact Nat.le_refl _)); have HYS := Lib.hid (show w.heap.size + 1 ≤ y.heap.size by have h1 := hy.size; rw [HSZ.out] at h1; exact h1); have HYW := Lib.hid (HB.out.trans (hy.mono HB.out.size))))
    refine ret_cell_tmp rfl rfl rfl rfl (setRow_heap _ _ _ _ _ _ (HG.out _ (HY.out.alloc HYS.out _))) Try.underlying44 rfl info47 ?_
    rw [HX.out]
    exact ⟨rfl, below_row1 (HYW.out.alloc (Nat.le_trans (by omega) HYS.out) _) (by omega)⟩
end Go.Proofs.Ytellifcjamedkaa
