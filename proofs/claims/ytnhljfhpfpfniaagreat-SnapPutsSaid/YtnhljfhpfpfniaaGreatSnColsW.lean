/- The document's columns of a book: the walk. -/
import Derived.Test.YtnhljfhpfpfniaaGreatSnCols
import Derived.BigQuiet
import Derived.Lib.AppendZeros
namespace Go.Proofs.YtnhljfhpfpfniaaGreat
open Go.RowKit Base Base2

set_option maxRecDepth 100000 in
set_option maxHeartbeats 16000000 in
theorem rcols26 (v : Slots) (b : BookT) (w : World) (hb : BookIn w v b) (hk : BookOk 2000 b) :
    Calls Tryz.prog 29 #[.agg (cellsB v b)] w fun e w' => ∃ V, e = .returned (.agg ((List.range 15).map V).toArray) ∧ (∀ j, j < 15 → w'.ownsRow w.heap.size 2 1 (V j) ((colsT b).getD j []).length (((colsT b).getD j []).map (Value.int .i64))) ∧ Below w.heap.size w w' := by
  obtain ⟨i0, hi0, hz0, hz1, hz2⟩ := info_parts info2I
  obtain ⟨CB, hCB⟩ : ∃ C, cellsB v b = C := ⟨_, rfl⟩
  have hx3 := three_alloc (w := w) (A := .cells (cellsB v b) 27) (B := .cells #[.slice none 0 0, .slice none 0 0, .slice none 0 0, .slice none 0 0, .slice none 0 0, .slice none 0 0, .slice none 0 0, .slice none 0 0, .slice none 0 0, .slice none 0 0, .slice none 0 0, .slice none 0 0, .slice none 0 0, .slice none 0 0, .slice none 0 0] 77) (C := .cells #[.slice none 0 0, .slice none 0 0, .slice none 0 0, .slice none 0 0, .slice none 0 0, .slice none 0 0, .slice none 0 0, .slice none 0 0, .slice none 0 0, .slice none 0 0, .slice none 0 0, .slice none 0 0, .slice none 0 0, .slice none 0 0, .slice none 0 0] 77)
  have HBI := Lib.hid hb
  have HK := Lib.hid hk
  have HCB := Lib.hid hCB
  rw [hCB] at hx3 ⊢
  clear hb hk hCB
  go_enter Tryz.func29, Tryz.ntmps29
  go_upto_region 2 with (fail)
  refine at_world (Φ := fun W => Below w.heap.size w W ∧ W.heap.size = w.heap.size + 3 ∧ BoxB W w.heap.size v b ∧ W.heap[w.heap.size + 1]? = some (.cells #[.slice none 0 0, .slice none 0 0, .slice none 0 0, .slice none 0 0, .slice none 0 0, .slice none 0 0, .slice none 0 0, .slice none 0 0, .slice none 0 0, .slice none 0 0, .slice none 0 0, .slice none 0 0, .slice none 0 0, .slice none 0 0, .slice none 0 0] 77 (0, 0)) ∧ W.heap[w.heap.size + 1 + 1]? = some (.cells #[.slice none 0 0, .slice none 0 0, .slice none 0 0, .slice none 0 0, .slice none 0 0, .slice none 0 0, .slice none 0 0, .slice none 0 0, .slice none 0 0, .slice none 0 0, .slice none 0 0, .slice none 0 0, .slice none 0 0, .slice none 0 0, .slice none 0 0] 77 (0, 0))) ⟨hx3.2.2.2, by simp, by unfold BoxB; rw [HCB.out]; exact hx3.1, hx3.2.1, hx3.2.2.1⟩ ?_
  clear hx3
  rintro W0 ⟨hlo, hsz, hx0, hx1, hx2⟩
  have HLO := Lib.hid (show ∀ W, Below (w.heap.size + 2) W0 W → Below w.heap.size w W from fun W h => hlo.trans (h.mono (by omega)))
  have HBX := Lib.hid (show ∀ W, Below (w.heap.size + 2) W0 W → _ from fun W h => (hx0.below h (by omega)).cells)
  have HX1 := Lib.hid (show ∀ W, Below (w.heap.size + 2) W0 W → W.heap[w.heap.size + 1]? = some (.cells #[.slice none 0 0, .slice none 0 0, .slice none 0 0, .slice none 0 0, .slice none 0 0, .slice none 0 0, .slice none 0 0, .slice none 0 0, .slice none 0 0, .slice none 0 0, .slice none 0 0, .slice none 0 0, .slice none 0 0, .slice none 0 0, .slice none 0 0] 77 (0, 0)) from fun W h => (h.block _ (by omega)).trans hx1)
  have HC0 := Lib.hid (show ColsS (w.heap.size + 3) (w.heap.size + 2) W0 (fun _ => .slice none 0 0) (fun _ => []) W0 from ⟨Below.refl _ _, by omega, by omega, hx2, fun j _ => World.ownsRow_nil _ _ _ _, fun i j _ _ _ => .inl rfl⟩)
  clear hlo hsz hx0 hx1 hx2
  go_wp2
  go_loopw [4] (fun vi W => ∃ i : Nat, vi = .int .i64 (i : Int) ∧ i ≤ b.hs.length ∧ ∃ V C, ColsS (w.heap.size + 3) (w.heap.size + 2) W0 V C W ∧ ∀ j, j < 15 → C j = colAt b i 0 0 0 j) (fun vi _ => b.hs.length - (intOf vi).toNat)
  case atStart => exact ⟨0, rfl, Nat.zero_le _, _, _, HC0.out, fun j hj => by unfold colAt colT; simp⟩
  case round =>
    clear HC0
    obtain ⟨i, rfl, hi, V, C, hs, hc⟩ := hrel
    have HS := Lib.hid hs
    have HC := Lib.hid hc
    have hlen := HK.out.hs.1
    clear hs hc
    obtain ⟨e0, e1, e2, e3, e4⟩ := HBX.out _ HS.out.lo
    by_cases hlt : i < b.hs.length
    · obtain ⟨x, hx⟩ : ∃ x, b.hs[i]? = some x := ⟨b.hs[i], by simp [hlt]⟩
      obtain ⟨b0, off, ha, hb0, hcs⟩ := HBI.out.hs.at hx
      obtain ⟨p, q, r, s, rfl⟩ := item4 (HK.out.hs.2 _ (List.mem_of_getElem? hx)).1
      have HX := Lib.hid hx
      have HL0 := Lib.hid (show ∀ j, j < 15 → (C j).length ≤ 2000 from fun j hj => by rw [HC.out j hj]; exact colAt_len HK.out _ _ _ _ _)
      rw [ha] at e0
      have k0 := hcs _ (HLO.out _ HS.out.lo) 0 p rfl
      have k1 := hcs _ (HLO.out _ HS.out.lo) 1 q rfl
      have k2 := hcs _ (HLO.out _ HS.out.lo) 2 r rfl
      have k3 := hcs _ (HLO.out _ HS.out.lo) 3 s rfl
      rw [Nat.add_zero] at k0
      have HCS := Lib.hid (fun W (h : Below (w.heap.size + 2) W0 W) => hcs W (HLO.out W h))
      clear hcs ha hx
      go_upto_region 6 with ((with_reducible refine atStore (ty := 62) (x := .tmp 5) (y := .tmp 22) rfl ?_); refine wpList_store_row rfl 62 (.tmp 5) (.tmp 22) rfl wr.heap.size #[.int .i64 p, .int .i64 q, .int .i64 r, .int .i64 s] rfl rfl 62 #[.int .i64 0, .int .i64 0, .int .i64 0, .int .i64 0] (heap_alloc_new wr _) info33 rfl (by simp [Value.oneCell']) ?_)
      have hbA : Below wr.heap.size wr ((wr.alloc (.cells #[.int .i64 0, .int .i64 0, .int .i64 0, .int .i64 0] 62)).setRow wr.heap.size #[.int .i64 p, .int .i64 q, .int .i64 r, .int .i64 s]) := below_rowB ((Below.refl _ _).alloc (Nat.le_refl _) _) (Nat.le_refl _)
      refine at_world (Φ := fun W => ColsS (w.heap.size + 3) (w.heap.size + 2) W0 V C W ∧ W.heap[wr.heap.size]? = some (.cells #[.int .i64 p, .int .i64 q, .int .i64 r, .int .i64 s] 62 (0, 0))) ⟨HS.out.below hbA, setRow_heap _ _ _ _ _ _ (heap_alloc_new wr _)⟩ ?_
      have HH := Lib.hid (show w.heap.size + 2 < wr.heap.size from Nat.lt_of_lt_of_le HS.out.gB HS.out.sz)
      clear hbA HS e0 e1 e2 e3 e4 k0 k1 k2 k3 HCS
      generalize wr.heap.size = h at *
      rintro Y0 ⟨hs, hit⟩
      have HS0 := Lib.hid hs
      have HI := Lib.hid hit
      have ec := hs.cell (show 0 < 15 by decide)
      have ei := cell_of_row Y0 h 0 _ _ (0, 0) hit
      clear hs hit
      have b1 : (C 0).length + 1 ≤ maxLen := by have := HL0.out 0 (by decide); unfold maxLen; omega
      have b2 : ((C 0).length + 1) * 8 ≤ 140737488355328 := by have := HL0.out 0 (by decide); omega
      go_upto_region 7 with (at_builtin; (refine wpList_append_own_at _ rfl _ _ 59 rfl (w.heap.size + 3) 2 i0 (.int .i64 0) 1 8 Tryz.underlying59 hi0 hz0 hz1 hz2 rfl (by decide) _ _ _ rfl ((HS0.out.own 0 (by decide)).alloc _) ⟨Y0.heap.size, 0, none⟩ 1 1 [.int .i64 p] rfl rfl (cell_one_new _ _ _) (by simp [Value.oneCell']) b1 b2 (Nat.le_trans HS0.out.sz (by simp)) ?_; intro v0 S0 hown hgrow _ hat; obtain ⟨av0, cv0, hv⟩ := own_formS hown; subst hv; have hA := HS0.out.below ((Below.refl _ _).alloc (Nat.le_refl _) (.cells #[.int .i64 p] 2)); have hP := hA.put (by decide) hown hgrow hat; have hI := item_kept ((Below.heap_alloc _ _ _ (Array.getElem?_eq_some_iff.1 HI.out).1).trans HI.out) (by decide) (hA.own 0 (by decide)) hgrow; have hg1 := (hgrow.block (w.heap.size + 2) (Nat.lt_of_lt_of_le hA.gB hA.sz) (fun e => by have h1 := hA.own_lt (show 0 < 15 by decide) _ e.symm; omega)).trans hA.box; have hfz := free_of_blkN hg1 0; have hcc := cell_of_row _ _ 0 _ _ (0, 0) hg1))
      obtain ⟨V1, hV1⟩ : ∃ VV : Nat → Value, upd V 0 (.slice av0 ((C 0).length + 1) cv0) = VV := ⟨_, rfl⟩
      obtain ⟨C1, hC1⟩ : ∃ CC, upd C 0 (C 0 ++ [p]) = CC := ⟨_, rfl⟩
      rw [hV1, hC1] at hP
      have HL1 := Lib.hid (show ∀ j, j < 15 → (C1 j).length ≤ 2001 from fun j hj => by rw [← hC1]; exact upd_len HL0.out (by decide) j hj)
      have E1 := Lib.hid hC1
      refine at_world (Φ := fun W => ColsS (w.heap.size + 3) (w.heap.size + 2) W0 V1 C1 W ∧ W.heap[h]? = some (.cells #[.int .i64 p, .int .i64 q, .int .i64 r, .int .i64 s] 62 (0, 0))) ⟨hP, (heap_setCell_ne _ (by have := HH.out; omega)).trans hI⟩ ?_
      clear hP hI hA hown hgrow hat hg1 hfz hcc ec ei HS0 HI hV1 hC1 b1 b2
      rintro Y1 ⟨hs, hit⟩
      have HS1 := Lib.hid hs
      have HI := Lib.hid hit
      have ec := hs.cell (show 1 < 15 by decide)
      have ei := cell_of_row Y1 h 1 _ _ (0, 0) hit
      clear hs hit
      have b1 : (C1 1).length + 1 ≤ maxLen := by have := HL1.out 1 (by decide); unfold maxLen; omega
      have b2 : ((C1 1).length + 1) * 8 ≤ 140737488355328 := by have := HL1.out 1 (by decide); omega
      go_upto_region 8 with (at_builtin; (refine wpList_append_own_at _ rfl _ _ 59 rfl (w.heap.size + 3) 2 i0 (.int .i64 0) 1 8 Tryz.underlying59 hi0 hz0 hz1 hz2 rfl (by decide) _ _ _ rfl ((HS1.out.own 1 (by decide)).alloc _) ⟨Y1.heap.size, 0, none⟩ 1 1 [.int .i64 q] rfl rfl (cell_one_new _ _ _) (by simp [Value.oneCell']) b1 b2 (Nat.le_trans HS1.out.sz (by simp)) ?_; intro v1 S1 hown hgrow _ hat; obtain ⟨av1, cv1, hv⟩ := own_formS hown; subst hv; have hA := HS1.out.below ((Below.refl _ _).alloc (Nat.le_refl _) (.cells #[.int .i64 q] 2)); have hP := hA.put (by decide) hown hgrow hat; have hI := item_kept ((Below.heap_alloc _ _ _ (Array.getElem?_eq_some_iff.1 HI.out).1).trans HI.out) (by decide) (hA.own 1 (by decide)) hgrow; have hg1 := (hgrow.block (w.heap.size + 2) (Nat.lt_of_lt_of_le hA.gB hA.sz) (fun e => by have h1 := hA.own_lt (show 1 < 15 by decide) _ e.symm; omega)).trans hA.box; have hfz := free_of_blkN hg1 1; have hcc := cell_of_row _ _ 1 _ _ (0, 0) hg1))
      obtain ⟨V2, hV2⟩ : ∃ VV : Nat → Value, upd V1 1 (.slice av1 ((C1 1).length + 1) cv1) = VV := ⟨_, rfl⟩
      obtain ⟨C2, hC2⟩ : ∃ CC, upd C1 1 (C1 1 ++ [q]) = CC := ⟨_, rfl⟩
      rw [hV2, hC2] at hP
      have HL2 := Lib.hid (show ∀ j, j < 15 → (C2 j).length ≤ 2002 from fun j hj => by rw [← hC2]; exact upd_len HL1.out (by decide) j hj)
      have E2 := Lib.hid hC2
      refine at_world (Φ := fun W => ColsS (w.heap.size + 3) (w.heap.size + 2) W0 V2 C2 W ∧ W.heap[h]? = some (.cells #[.int .i64 p, .int .i64 q, .int .i64 r, .int .i64 s] 62 (0, 0))) ⟨hP, (heap_setCell_ne _ (by have := HH.out; omega)).trans hI⟩ ?_
      clear hP hI hA hown hgrow hat hg1 hfz hcc ec ei HS1 HI hV2 hC2 b1 b2
      rintro Y2 ⟨hs, hit⟩
      have HS2 := Lib.hid hs
      have HI := Lib.hid hit
      have ec := hs.cell (show 2 < 15 by decide)
      have ei := cell_of_row Y2 h 2 _ _ (0, 0) hit
      clear hs hit
      have b1 : (C2 2).length + 1 ≤ maxLen := by have := HL2.out 2 (by decide); unfold maxLen; omega
      have b2 : ((C2 2).length + 1) * 8 ≤ 140737488355328 := by have := HL2.out 2 (by decide); omega
      go_upto_region 9 with (at_builtin; (refine wpList_append_own_at _ rfl _ _ 59 rfl (w.heap.size + 3) 2 i0 (.int .i64 0) 1 8 Tryz.underlying59 hi0 hz0 hz1 hz2 rfl (by decide) _ _ _ rfl ((HS2.out.own 2 (by decide)).alloc _) ⟨Y2.heap.size, 0, none⟩ 1 1 [.int .i64 r] rfl rfl (cell_one_new _ _ _) (by simp [Value.oneCell']) b1 b2 (Nat.le_trans HS2.out.sz (by simp)) ?_; intro v2 S2 hown hgrow _ hat; obtain ⟨av2, cv2, hv⟩ := own_formS hown; subst hv; have hA := HS2.out.below ((Below.refl _ _).alloc (Nat.le_refl _) (.cells #[.int .i64 r] 2)); have hP := hA.put (by decide) hown hgrow hat; have hI := item_kept ((Below.heap_alloc _ _ _ (Array.getElem?_eq_some_iff.1 HI.out).1).trans HI.out) (by decide) (hA.own 2 (by decide)) hgrow; have hg1 := (hgrow.block (w.heap.size + 2) (Nat.lt_of_lt_of_le hA.gB hA.sz) (fun e => by have h1 := hA.own_lt (show 2 < 15 by decide) _ e.symm; omega)).trans hA.box; have hfz := free_of_blkN hg1 2; have hcc := cell_of_row _ _ 2 _ _ (0, 0) hg1))
      obtain ⟨V3, hV3⟩ : ∃ VV : Nat → Value, upd V2 2 (.slice av2 ((C2 2).length + 1) cv2) = VV := ⟨_, rfl⟩
      obtain ⟨C3, hC3⟩ : ∃ CC, upd C2 2 (C2 2 ++ [r]) = CC := ⟨_, rfl⟩
      rw [hV3, hC3] at hP
      have HL3 := Lib.hid (show ∀ j, j < 15 → (C3 j).length ≤ 2003 from fun j hj => by rw [← hC3]; exact upd_len HL2.out (by decide) j hj)
      have E3 := Lib.hid hC3
      refine at_world (Φ := fun W => ColsS (w.heap.size + 3) (w.heap.size + 2) W0 V3 C3 W ∧ W.heap[h]? = some (.cells #[.int .i64 p, .int .i64 q, .int .i64 r, .int .i64 s] 62 (0, 0))) ⟨hP, (heap_setCell_ne _ (by have := HH.out; omega)).trans hI⟩ ?_
      clear hP hI hA hown hgrow hat hg1 hfz hcc ec ei HS2 HI hV3 hC3 b1 b2
      rintro Y3 ⟨hs, hit⟩
      have HS3 := Lib.hid hs
      have HI := Lib.hid hit
      have ec := hs.cell (show 3 < 15 by decide)
      have ei := cell_of_row Y3 h 3 _ _ (0, 0) hit
      clear hs hit
      have b1 : (C3 3).length + 1 ≤ maxLen := by have := HL3.out 3 (by decide); unfold maxLen; omega
      have b2 : ((C3 3).length + 1) * 8 ≤ 140737488355328 := by have := HL3.out 3 (by decide); omega
      go_wp2_with (at_builtin; (refine wpList_append_own_at _ rfl _ _ 59 rfl (w.heap.size + 3) 2 i0 (.int .i64 0) 1 8 Tryz.underlying59 hi0 hz0 hz1 hz2 rfl (by decide) _ _ _ rfl ((HS3.out.own 3 (by decide)).alloc _) ⟨Y3.heap.size, 0, none⟩ 1 1 [.int .i64 s] rfl rfl (cell_one_new _ _ _) (by simp [Value.oneCell']) b1 b2 (Nat.le_trans HS3.out.sz (by simp)) ?_; intro v3 S3 hown hgrow _ hat; obtain ⟨av3, cv3, hv⟩ := own_formS hown; subst hv; have hA := HS3.out.below ((Below.refl _ _).alloc (Nat.le_refl _) (.cells #[.int .i64 s] 2)); have hP := hA.put (by decide) hown hgrow hat; have hI := item_kept ((Below.heap_alloc _ _ _ (Array.getElem?_eq_some_iff.1 HI.out).1).trans HI.out) (by decide) (hA.own 3 (by decide)) hgrow; have hg1 := (hgrow.block (w.heap.size + 2) (Nat.lt_of_lt_of_le hA.gB hA.sz) (fun e => by have h1 := hA.own_lt (show 3 < 15 by decide) _ e.symm; omega)).trans hA.box; have hfz := free_of_blkN hg1 3; have hcc := cell_of_row _ _ 3 _ _ (0, 0) hg1))
      obtain ⟨V4, hV4⟩ : ∃ VV : Nat → Value, upd V3 3 (.slice av3 ((C3 3).length + 1) cv3) = VV := ⟨_, rfl⟩
      obtain ⟨C4, hC4⟩ : ∃ CC, upd C3 3 (C3 3 ++ [s]) = CC := ⟨_, rfl⟩
      rw [hV4, hC4] at hP
      have HL4 := Lib.hid (show ∀ j, j < 15 → (C4 j).length ≤ 2004 from fun j hj => by rw [← hC4]; exact upd_len HL3.out (by decide) j hj)
      have E4 := Lib.hid hC4
      have HP := Lib.hid hP
      go_roundw
      case rel => exact ⟨i + 1, by go_num, hlt, _, _, HP.out, cols_next0 HX.out HC.out E1.out E2.out E3.out E4.out⟩
      case measure => simp [intOf]; omega
    · have HCF := Lib.hid (show ∀ j, j < 15 → C j = colAt b b.hs.length 0 0 0 j from fun j hj => by have h := HC.out j hj; rw [show i = b.hs.length by omega] at h; exact h)
      clear HC
      have HC := Lib.hid HCF.out
      clear HCF
      go_wp2
      clear hlt hi e0 e1 e2 e3 e4 hlen
      go_loopw [6] (fun vi W => ∃ i : Nat, vi = .int .i64 (i : Int) ∧ i ≤ b.ss.length ∧ ∃ V C, ColsS (w.heap.size + 3) (w.heap.size + 2) W0 V C W ∧ ∀ j, j < 15 → C j = colAt b b.hs.length i 0 0 j) (fun vi _ => b.ss.length - (intOf vi).toNat)
      case atStart => exact ⟨0, rfl, Nat.zero_le _, _, _, HS.out, fun j hj => (HC.out j hj).trans (by unfold colAt colT; simp)⟩
      case round =>
        clear HS HC
        obtain ⟨i, rfl, hi, V, C, hs, hc⟩ := hrel
        have HS := Lib.hid hs
        have HC := Lib.hid hc
        have hlen := HK.out.ss.1
        clear hs hc
        obtain ⟨e0, e1, e2, e3, e4⟩ := HBX.out _ HS.out.lo
        by_cases hlt : i < b.ss.length
        · obtain ⟨x, hx⟩ : ∃ x, b.ss[i]? = some x := ⟨b.ss[i], by simp [hlt]⟩
          obtain ⟨b0, off, ha, hb0, hcs⟩ := HBI.out.ss.at hx
          obtain ⟨p, q, r, rfl⟩ := item3 (HK.out.ss.2 _ (List.mem_of_getElem? hx)).1
          have HX := Lib.hid hx
          have HL0 := Lib.hid (show ∀ j, j < 15 → (C j).length ≤ 2000 from fun j hj => by rw [HC.out j hj]; exact colAt_len HK.out _ _ _ _ _)
          rw [ha] at e1
          have k0 := hcs _ (HLO.out _ HS.out.lo) 0 p rfl
          have k1 := hcs _ (HLO.out _ HS.out.lo) 1 q rfl
          have k2 := hcs _ (HLO.out _ HS.out.lo) 2 r rfl
          rw [Nat.add_zero] at k0
          have HCS := Lib.hid (fun W (h : Below (w.heap.size + 2) W0 W) => hcs W (HLO.out W h))
          clear hcs ha hx
          go_upto_region 14 with ((with_reducible refine atStore (ty := 66) (x := .tmp 7) (y := .tmp 62) rfl ?_); refine wpList_store_row rfl 66 (.tmp 7) (.tmp 62) rfl wr.heap.size #[.int .i64 p, .int .i64 q, .int .i64 r] rfl rfl 66 #[.int .i64 0, .int .i64 0, .int .i64 0] (heap_alloc_new wr _) info45 rfl (by simp [Value.oneCell']) ?_)
          have hbA : Below wr.heap.size wr ((wr.alloc (.cells #[.int .i64 0, .int .i64 0, .int .i64 0] 66)).setRow wr.heap.size #[.int .i64 p, .int .i64 q, .int .i64 r]) := below_rowB ((Below.refl _ _).alloc (Nat.le_refl _) _) (Nat.le_refl _)
          refine at_world (Φ := fun W => ColsS (w.heap.size + 3) (w.heap.size + 2) W0 V C W ∧ W.heap[wr.heap.size]? = some (.cells #[.int .i64 p, .int .i64 q, .int .i64 r] 66 (0, 0))) ⟨HS.out.below hbA, setRow_heap _ _ _ _ _ _ (heap_alloc_new wr _)⟩ ?_
          have HH := Lib.hid (show w.heap.size + 2 < wr.heap.size from Nat.lt_of_lt_of_le HS.out.gB HS.out.sz)
          clear hbA HS e0 e1 e2 e3 e4 k0 k1 k2 HCS
          generalize wr.heap.size = h at *
          rintro Y0 ⟨hs, hit⟩
          have HS0 := Lib.hid hs
          have HI := Lib.hid hit
          have ec := hs.cell (show 4 < 15 by decide)
          have ei := cell_of_row Y0 h 0 _ _ (0, 0) hit
          clear hs hit
          have b1 : (C 4).length + 1 ≤ maxLen := by have := HL0.out 4 (by decide); unfold maxLen; omega
          have b2 : ((C 4).length + 1) * 8 ≤ 140737488355328 := by have := HL0.out 4 (by decide); omega
          go_upto_region 15 with (at_builtin; (refine wpList_append_own_at _ rfl _ _ 59 rfl (w.heap.size + 3) 2 i0 (.int .i64 0) 1 8 Tryz.underlying59 hi0 hz0 hz1 hz2 rfl (by decide) _ _ _ rfl ((HS0.out.own 4 (by decide)).alloc _) ⟨Y0.heap.size, 0, none⟩ 1 1 [.int .i64 p] rfl rfl (cell_one_new _ _ _) (by simp [Value.oneCell']) b1 b2 (Nat.le_trans HS0.out.sz (by simp)) ?_; intro v0 S0 hown hgrow _ hat; obtain ⟨av0, cv0, hv⟩ := own_formS hown; subst hv; have hA := HS0.out.below ((Below.refl _ _).alloc (Nat.le_refl _) (.cells #[.int .i64 p] 2)); have hP := hA.put (by decide) hown hgrow hat; have hI := item_kept ((Below.heap_alloc _ _ _ (Array.getElem?_eq_some_iff.1 HI.out).1).trans HI.out) (by decide) (hA.own 4 (by decide)) hgrow; have hg1 := (hgrow.block (w.heap.size + 2) (Nat.lt_of_lt_of_le hA.gB hA.sz) (fun e => by have h1 := hA.own_lt (show 4 < 15 by decide) _ e.symm; omega)).trans hA.box; have hfz := free_of_blkN hg1 4; have hcc := cell_of_row _ _ 4 _ _ (0, 0) hg1))
          obtain ⟨V1, hV1⟩ : ∃ VV : Nat → Value, upd V 4 (.slice av0 ((C 4).length + 1) cv0) = VV := ⟨_, rfl⟩
          obtain ⟨C1, hC1⟩ : ∃ CC, upd C 4 (C 4 ++ [p]) = CC := ⟨_, rfl⟩
          rw [hV1, hC1] at hP
          have HL1 := Lib.hid (show ∀ j, j < 15 → (C1 j).length ≤ 2001 from fun j hj => by rw [← hC1]; exact upd_len HL0.out (by decide) j hj)
          have E1 := Lib.hid hC1
          refine at_world (Φ := fun W => ColsS (w.heap.size + 3) (w.heap.size + 2) W0 V1 C1 W ∧ W.heap[h]? = some (.cells #[.int .i64 p, .int .i64 q, .int .i64 r] 66 (0, 0))) ⟨hP, (heap_setCell_ne _ (by have := HH.out; omega)).trans hI⟩ ?_
          clear hP hI hA hown hgrow hat hg1 hfz hcc ec ei HS0 HI hV1 hC1 b1 b2
          rintro Y1 ⟨hs, hit⟩
          have HS1 := Lib.hid hs
          have HI := Lib.hid hit
          have ec := hs.cell (show 5 < 15 by decide)
          have ei := cell_of_row Y1 h 1 _ _ (0, 0) hit
          clear hs hit
          have b1 : (C1 5).length + 1 ≤ maxLen := by have := HL1.out 5 (by decide); unfold maxLen; omega
          have b2 : ((C1 5).length + 1) * 8 ≤ 140737488355328 := by have := HL1.out 5 (by decide); omega
          go_upto_region 16 with (at_builtin; (refine wpList_append_own_at _ rfl _ _ 59 rfl (w.heap.size + 3) 2 i0 (.int .i64 0) 1 8 Tryz.underlying59 hi0 hz0 hz1 hz2 rfl (by decide) _ _ _ rfl ((HS1.out.own 5 (by decide)).alloc _) ⟨Y1.heap.size, 0, none⟩ 1 1 [.int .i64 q] rfl rfl (cell_one_new _ _ _) (by simp [Value.oneCell']) b1 b2 (Nat.le_trans HS1.out.sz (by simp)) ?_; intro v1 S1 hown hgrow _ hat; obtain ⟨av1, cv1, hv⟩ := own_formS hown; subst hv; have hA := HS1.out.below ((Below.refl _ _).alloc (Nat.le_refl _) (.cells #[.int .i64 q] 2)); have hP := hA.put (by decide) hown hgrow hat; have hI := item_kept ((Below.heap_alloc _ _ _ (Array.getElem?_eq_some_iff.1 HI.out).1).trans HI.out) (by decide) (hA.own 5 (by decide)) hgrow; have hg1 := (hgrow.block (w.heap.size + 2) (Nat.lt_of_lt_of_le hA.gB hA.sz) (fun e => by have h1 := hA.own_lt (show 5 < 15 by decide) _ e.symm; omega)).trans hA.box; have hfz := free_of_blkN hg1 5; have hcc := cell_of_row _ _ 5 _ _ (0, 0) hg1))
          obtain ⟨V2, hV2⟩ : ∃ VV : Nat → Value, upd V1 5 (.slice av1 ((C1 5).length + 1) cv1) = VV := ⟨_, rfl⟩
          obtain ⟨C2, hC2⟩ : ∃ CC, upd C1 5 (C1 5 ++ [q]) = CC := ⟨_, rfl⟩
          rw [hV2, hC2] at hP
          have HL2 := Lib.hid (show ∀ j, j < 15 → (C2 j).length ≤ 2002 from fun j hj => by rw [← hC2]; exact upd_len HL1.out (by decide) j hj)
          have E2 := Lib.hid hC2
          refine at_world (Φ := fun W => ColsS (w.heap.size + 3) (w.heap.size + 2) W0 V2 C2 W ∧ W.heap[h]? = some (.cells #[.int .i64 p, .int .i64 q, .int .i64 r] 66 (0, 0))) ⟨hP, (heap_setCell_ne _ (by have := HH.out; omega)).trans hI⟩ ?_
          clear hP hI hA hown hgrow hat hg1 hfz hcc ec ei HS1 HI hV2 hC2 b1 b2
          rintro Y2 ⟨hs, hit⟩
          have HS2 := Lib.hid hs
          have HI := Lib.hid hit
          have ec := hs.cell (show 6 < 15 by decide)
          have ei := cell_of_row Y2 h 2 _ _ (0, 0) hit
          clear hs hit
          have b1 : (C2 6).length + 1 ≤ maxLen := by have := HL2.out 6 (by decide); unfold maxLen; omega
          have b2 : ((C2 6).length + 1) * 8 ≤ 140737488355328 := by have := HL2.out 6 (by decide); omega
          go_wp2_with (at_builtin; (refine wpList_append_own_at _ rfl _ _ 59 rfl (w.heap.size + 3) 2 i0 (.int .i64 0) 1 8 Tryz.underlying59 hi0 hz0 hz1 hz2 rfl (by decide) _ _ _ rfl ((HS2.out.own 6 (by decide)).alloc _) ⟨Y2.heap.size, 0, none⟩ 1 1 [.int .i64 r] rfl rfl (cell_one_new _ _ _) (by simp [Value.oneCell']) b1 b2 (Nat.le_trans HS2.out.sz (by simp)) ?_; intro v2 S2 hown hgrow _ hat; obtain ⟨av2, cv2, hv⟩ := own_formS hown; subst hv; have hA := HS2.out.below ((Below.refl _ _).alloc (Nat.le_refl _) (.cells #[.int .i64 r] 2)); have hP := hA.put (by decide) hown hgrow hat; have hI := item_kept ((Below.heap_alloc _ _ _ (Array.getElem?_eq_some_iff.1 HI.out).1).trans HI.out) (by decide) (hA.own 6 (by decide)) hgrow; have hg1 := (hgrow.block (w.heap.size + 2) (Nat.lt_of_lt_of_le hA.gB hA.sz) (fun e => by have h1 := hA.own_lt (show 6 < 15 by decide) _ e.symm; omega)).trans hA.box; have hfz := free_of_blkN hg1 6; have hcc := cell_of_row _ _ 6 _ _ (0, 0) hg1))
          obtain ⟨V3, hV3⟩ : ∃ VV : Nat → Value, upd V2 6 (.slice av2 ((C2 6).length + 1) cv2) = VV := ⟨_, rfl⟩
          obtain ⟨C3, hC3⟩ : ∃ CC, upd C2 6 (C2 6 ++ [r]) = CC := ⟨_, rfl⟩
          rw [hV3, hC3] at hP
          have HL3 := Lib.hid (show ∀ j, j < 15 → (C3 j).length ≤ 2003 from fun j hj => by rw [← hC3]; exact upd_len HL2.out (by decide) j hj)
          have E3 := Lib.hid hC3
          have HP := Lib.hid hP
          go_roundw
          case rel => exact ⟨i + 1, by go_num, hlt, _, _, HP.out, cols_next1 HX.out HC.out E1.out E2.out E3.out⟩
          case measure => simp [intOf]; omega
        · have HCF := Lib.hid (show ∀ j, j < 15 → C j = colAt b b.hs.length b.ss.length 0 0 j from fun j hj => by have h := HC.out j hj; rw [show i = b.ss.length by omega] at h; exact h)
          clear HC
          have HC := Lib.hid HCF.out
          clear HCF
          go_wp2
          clear hlt hi e0 e1 e2 e3 e4 hlen
          go_loopw [8] (fun vi W => ∃ i : Nat, vi = .int .i64 (i : Int) ∧ i ≤ b.os.length ∧ ∃ V C, ColsS (w.heap.size + 3) (w.heap.size + 2) W0 V C W ∧ ∀ j, j < 15 → C j = colAt b b.hs.length b.ss.length i 0 j) (fun vi _ => b.os.length - (intOf vi).toNat)
          case atStart => exact ⟨0, rfl, Nat.zero_le _, _, _, HS.out, fun j hj => (HC.out j hj).trans (by unfold colAt colT; simp)⟩
          case round =>
            clear HS HC
            obtain ⟨i, rfl, hi, V, C, hs, hc⟩ := hrel
            have HS := Lib.hid hs
            have HC := Lib.hid hc
            have hlen := HK.out.os.1
            clear hs hc
            obtain ⟨e0, e1, e2, e3, e4⟩ := HBX.out _ HS.out.lo
            by_cases hlt : i < b.os.length
            · obtain ⟨x, hx⟩ : ∃ x, b.os[i]? = some x := ⟨b.os[i], by simp [hlt]⟩
              obtain ⟨b0, off, ha, hb0, hcs⟩ := HBI.out.os.at hx
              obtain ⟨p, q, r, s, t, z, rfl⟩ := item6 (HK.out.os.2 _ (List.mem_of_getElem? hx)).1
              have HX := Lib.hid hx
              have HL0 := Lib.hid (show ∀ j, j < 15 → (C j).length ≤ 2000 from fun j hj => by rw [HC.out j hj]; exact colAt_len HK.out _ _ _ _ _)
              rw [ha] at e2
              have k0 := hcs _ (HLO.out _ HS.out.lo) 0 p rfl
              have k1 := hcs _ (HLO.out _ HS.out.lo) 1 q rfl
              have k2 := hcs _ (HLO.out _ HS.out.lo) 2 r rfl
              have k3 := hcs _ (HLO.out _ HS.out.lo) 3 s rfl
              have k4 := hcs _ (HLO.out _ HS.out.lo) 4 t rfl
              have k5 := hcs _ (HLO.out _ HS.out.lo) 5 z rfl
              rw [Nat.add_zero] at k0
              have HCS := Lib.hid (fun W (h : Below (w.heap.size + 2) W0 W) => hcs W (HLO.out W h))
              clear hcs ha hx
              go_upto_region 21 with ((with_reducible refine atStore (ty := 69) (x := .tmp 9) (y := .tmp 95) rfl ?_); refine wpList_store_row rfl 69 (.tmp 9) (.tmp 95) rfl wr.heap.size #[.int .i64 p, .int .i64 q, .int .i64 r, .int .i64 s, .int .i64 t, .int .i64 z] rfl rfl 69 #[.int .i64 0, .int .i64 0, .int .i64 0, .int .i64 0, .int .i64 0, .int .i64 0] (heap_alloc_new wr _) info37 rfl (by simp [Value.oneCell']) ?_)
              have hbA : Below wr.heap.size wr ((wr.alloc (.cells #[.int .i64 0, .int .i64 0, .int .i64 0, .int .i64 0, .int .i64 0, .int .i64 0] 69)).setRow wr.heap.size #[.int .i64 p, .int .i64 q, .int .i64 r, .int .i64 s, .int .i64 t, .int .i64 z]) := below_rowB ((Below.refl _ _).alloc (Nat.le_refl _) _) (Nat.le_refl _)
              refine at_world (Φ := fun W => ColsS (w.heap.size + 3) (w.heap.size + 2) W0 V C W ∧ W.heap[wr.heap.size]? = some (.cells #[.int .i64 p, .int .i64 q, .int .i64 r, .int .i64 s, .int .i64 t, .int .i64 z] 69 (0, 0))) ⟨HS.out.below hbA, setRow_heap _ _ _ _ _ _ (heap_alloc_new wr _)⟩ ?_
              have HH := Lib.hid (show w.heap.size + 2 < wr.heap.size from Nat.lt_of_lt_of_le HS.out.gB HS.out.sz)
              clear hbA HS e0 e1 e2 e3 e4 k0 k1 k2 k3 k4 k5 HCS
              generalize wr.heap.size = h at *
              rintro Y0 ⟨hs, hit⟩
              have HS0 := Lib.hid hs
              have HI := Lib.hid hit
              have ec := hs.cell (show 7 < 15 by decide)
              have ei := cell_of_row Y0 h 0 _ _ (0, 0) hit
              clear hs hit
              have b1 : (C 7).length + 1 ≤ maxLen := by have := HL0.out 7 (by decide); unfold maxLen; omega
              have b2 : ((C 7).length + 1) * 8 ≤ 140737488355328 := by have := HL0.out 7 (by decide); omega
              go_upto_region 22 with (at_builtin; (refine wpList_append_own_at _ rfl _ _ 59 rfl (w.heap.size + 3) 2 i0 (.int .i64 0) 1 8 Tryz.underlying59 hi0 hz0 hz1 hz2 rfl (by decide) _ _ _ rfl ((HS0.out.own 7 (by decide)).alloc _) ⟨Y0.heap.size, 0, none⟩ 1 1 [.int .i64 p] rfl rfl (cell_one_new _ _ _) (by simp [Value.oneCell']) b1 b2 (Nat.le_trans HS0.out.sz (by simp)) ?_; intro v0 S0 hown hgrow _ hat; obtain ⟨av0, cv0, hv⟩ := own_formS hown; subst hv; have hA := HS0.out.below ((Below.refl _ _).alloc (Nat.le_refl _) (.cells #[.int .i64 p] 2)); have hP := hA.put (by decide) hown hgrow hat; have hI := item_kept ((Below.heap_alloc _ _ _ (Array.getElem?_eq_some_iff.1 HI.out).1).trans HI.out) (by decide) (hA.own 7 (by decide)) hgrow; have hg1 := (hgrow.block (w.heap.size + 2) (Nat.lt_of_lt_of_le hA.gB hA.sz) (fun e => by have h1 := hA.own_lt (show 7 < 15 by decide) _ e.symm; omega)).trans hA.box; have hfz := free_of_blkN hg1 7; have hcc := cell_of_row _ _ 7 _ _ (0, 0) hg1))
              obtain ⟨V1, hV1⟩ : ∃ VV : Nat → Value, upd V 7 (.slice av0 ((C 7).length + 1) cv0) = VV := ⟨_, rfl⟩
              obtain ⟨C1, hC1⟩ : ∃ CC, upd C 7 (C 7 ++ [p]) = CC := ⟨_, rfl⟩
              rw [hV1, hC1] at hP
              have HL1 := Lib.hid (show ∀ j, j < 15 → (C1 j).length ≤ 2001 from fun j hj => by rw [← hC1]; exact upd_len HL0.out (by decide) j hj)
              have E1 := Lib.hid hC1
              refine at_world (Φ := fun W => ColsS (w.heap.size + 3) (w.heap.size + 2) W0 V1 C1 W ∧ W.heap[h]? = some (.cells #[.int .i64 p, .int .i64 q, .int .i64 r, .int .i64 s, .int .i64 t, .int .i64 z] 69 (0, 0))) ⟨hP, (heap_setCell_ne _ (by have := HH.out; omega)).trans hI⟩ ?_
              clear hP hI hA hown hgrow hat hg1 hfz hcc ec ei HS0 HI hV1 hC1 b1 b2
              rintro Y1 ⟨hs, hit⟩
              have HS1 := Lib.hid hs
              have HI := Lib.hid hit
              have ec := hs.cell (show 8 < 15 by decide)
              have ei := cell_of_row Y1 h 1 _ _ (0, 0) hit
              clear hs hit
              have b1 : (C1 8).length + 1 ≤ maxLen := by have := HL1.out 8 (by decide); unfold maxLen; omega
              have b2 : ((C1 8).length + 1) * 8 ≤ 140737488355328 := by have := HL1.out 8 (by decide); omega
              go_upto_region 23 with (at_builtin; (refine wpList_append_own_at _ rfl _ _ 59 rfl (w.heap.size + 3) 2 i0 (.int .i64 0) 1 8 Tryz.underlying59 hi0 hz0 hz1 hz2 rfl (by decide) _ _ _ rfl ((HS1.out.own 8 (by decide)).alloc _) ⟨Y1.heap.size, 0, none⟩ 1 1 [.int .i64 q] rfl rfl (cell_one_new _ _ _) (by simp [Value.oneCell']) b1 b2 (Nat.le_trans HS1.out.sz (by simp)) ?_; intro v1 S1 hown hgrow _ hat; obtain ⟨av1, cv1, hv⟩ := own_formS hown; subst hv; have hA := HS1.out.below ((Below.refl _ _).alloc (Nat.le_refl _) (.cells #[.int .i64 q] 2)); have hP := hA.put (by decide) hown hgrow hat; have hI := item_kept ((Below.heap_alloc _ _ _ (Array.getElem?_eq_some_iff.1 HI.out).1).trans HI.out) (by decide) (hA.own 8 (by decide)) hgrow; have hg1 := (hgrow.block (w.heap.size + 2) (Nat.lt_of_lt_of_le hA.gB hA.sz) (fun e => by have h1 := hA.own_lt (show 8 < 15 by decide) _ e.symm; omega)).trans hA.box; have hfz := free_of_blkN hg1 8; have hcc := cell_of_row _ _ 8 _ _ (0, 0) hg1))
              obtain ⟨V2, hV2⟩ : ∃ VV : Nat → Value, upd V1 8 (.slice av1 ((C1 8).length + 1) cv1) = VV := ⟨_, rfl⟩
              obtain ⟨C2, hC2⟩ : ∃ CC, upd C1 8 (C1 8 ++ [q]) = CC := ⟨_, rfl⟩
              rw [hV2, hC2] at hP
              have HL2 := Lib.hid (show ∀ j, j < 15 → (C2 j).length ≤ 2002 from fun j hj => by rw [← hC2]; exact upd_len HL1.out (by decide) j hj)
              have E2 := Lib.hid hC2
              refine at_world (Φ := fun W => ColsS (w.heap.size + 3) (w.heap.size + 2) W0 V2 C2 W ∧ W.heap[h]? = some (.cells #[.int .i64 p, .int .i64 q, .int .i64 r, .int .i64 s, .int .i64 t, .int .i64 z] 69 (0, 0))) ⟨hP, (heap_setCell_ne _ (by have := HH.out; omega)).trans hI⟩ ?_
              clear hP hI hA hown hgrow hat hg1 hfz hcc ec ei HS1 HI hV2 hC2 b1 b2
              rintro Y2 ⟨hs, hit⟩
              have HS2 := Lib.hid hs
              have HI := Lib.hid hit
              have ec := hs.cell (show 9 < 15 by decide)
              have ei := cell_of_row Y2 h 2 _ _ (0, 0) hit
              clear hs hit
              have b1 : (C2 9).length + 1 ≤ maxLen := by have := HL2.out 9 (by decide); unfold maxLen; omega
              have b2 : ((C2 9).length + 1) * 8 ≤ 140737488355328 := by have := HL2.out 9 (by decide); omega
              go_upto_region 24 with (at_builtin; (refine wpList_append_own_at _ rfl _ _ 59 rfl (w.heap.size + 3) 2 i0 (.int .i64 0) 1 8 Tryz.underlying59 hi0 hz0 hz1 hz2 rfl (by decide) _ _ _ rfl ((HS2.out.own 9 (by decide)).alloc _) ⟨Y2.heap.size, 0, none⟩ 1 1 [.int .i64 r] rfl rfl (cell_one_new _ _ _) (by simp [Value.oneCell']) b1 b2 (Nat.le_trans HS2.out.sz (by simp)) ?_; intro v2 S2 hown hgrow _ hat; obtain ⟨av2, cv2, hv⟩ := own_formS hown; subst hv; have hA := HS2.out.below ((Below.refl _ _).alloc (Nat.le_refl _) (.cells #[.int .i64 r] 2)); have hP := hA.put (by decide) hown hgrow hat; have hI := item_kept ((Below.heap_alloc _ _ _ (Array.getElem?_eq_some_iff.1 HI.out).1).trans HI.out) (by decide) (hA.own 9 (by decide)) hgrow; have hg1 := (hgrow.block (w.heap.size + 2) (Nat.lt_of_lt_of_le hA.gB hA.sz) (fun e => by have h1 := hA.own_lt (show 9 < 15 by decide) _ e.symm; omega)).trans hA.box; have hfz := free_of_blkN hg1 9; have hcc := cell_of_row _ _ 9 _ _ (0, 0) hg1))
              obtain ⟨V3, hV3⟩ : ∃ VV : Nat → Value, upd V2 9 (.slice av2 ((C2 9).length + 1) cv2) = VV := ⟨_, rfl⟩
              obtain ⟨C3, hC3⟩ : ∃ CC, upd C2 9 (C2 9 ++ [r]) = CC := ⟨_, rfl⟩
              rw [hV3, hC3] at hP
              have HL3 := Lib.hid (show ∀ j, j < 15 → (C3 j).length ≤ 2003 from fun j hj => by rw [← hC3]; exact upd_len HL2.out (by decide) j hj)
              have E3 := Lib.hid hC3
              refine at_world (Φ := fun W => ColsS (w.heap.size + 3) (w.heap.size + 2) W0 V3 C3 W ∧ W.heap[h]? = some (.cells #[.int .i64 p, .int .i64 q, .int .i64 r, .int .i64 s, .int .i64 t, .int .i64 z] 69 (0, 0))) ⟨hP, (heap_setCell_ne _ (by have := HH.out; omega)).trans hI⟩ ?_
              clear hP hI hA hown hgrow hat hg1 hfz hcc ec ei HS2 HI hV3 hC3 b1 b2
              rintro Y3 ⟨hs, hit⟩
              have HS3 := Lib.hid hs
              have HI := Lib.hid hit
              have ec := hs.cell (show 10 < 15 by decide)
              have ei := cell_of_row Y3 h 3 _ _ (0, 0) hit
              clear hs hit
              have b1 : (C3 10).length + 1 ≤ maxLen := by have := HL3.out 10 (by decide); unfold maxLen; omega
              have b2 : ((C3 10).length + 1) * 8 ≤ 140737488355328 := by have := HL3.out 10 (by decide); omega
              go_upto_region 25 with (at_builtin; (refine wpList_append_own_at _ rfl _ _ 59 rfl (w.heap.size + 3) 2 i0 (.int .i64 0) 1 8 Tryz.underlying59 hi0 hz0 hz1 hz2 rfl (by decide) _ _ _ rfl ((HS3.out.own 10 (by decide)).alloc _) ⟨Y3.heap.size, 0, none⟩ 1 1 [.int .i64 s] rfl rfl (cell_one_new _ _ _) (by simp [Value.oneCell']) b1 b2 (Nat.le_trans HS3.out.sz (by simp)) ?_; intro v3 S3 hown hgrow _ hat; obtain ⟨av3, cv3, hv⟩ := own_formS hown; subst hv; have hA := HS3.out.below ((Below.refl _ _).alloc (Nat.le_refl _) (.cells #[.int .i64 s] 2)); have hP := hA.put (by decide) hown hgrow hat; have hI := item_kept ((Below.heap_alloc _ _ _ (Array.getElem?_eq_some_iff.1 HI.out).1).trans HI.out) (by decide) (hA.own 10 (by decide)) hgrow; have hg1 := (hgrow.block (w.heap.size + 2) (Nat.lt_of_lt_of_le hA.gB hA.sz) (fun e => by have h1 := hA.own_lt (show 10 < 15 by decide) _ e.symm; omega)).trans hA.box; have hfz := free_of_blkN hg1 10; have hcc := cell_of_row _ _ 10 _ _ (0, 0) hg1))
              obtain ⟨V4, hV4⟩ : ∃ VV : Nat → Value, upd V3 10 (.slice av3 ((C3 10).length + 1) cv3) = VV := ⟨_, rfl⟩
              obtain ⟨C4, hC4⟩ : ∃ CC, upd C3 10 (C3 10 ++ [s]) = CC := ⟨_, rfl⟩
              rw [hV4, hC4] at hP
              have HL4 := Lib.hid (show ∀ j, j < 15 → (C4 j).length ≤ 2004 from fun j hj => by rw [← hC4]; exact upd_len HL3.out (by decide) j hj)
              have E4 := Lib.hid hC4
              refine at_world (Φ := fun W => ColsS (w.heap.size + 3) (w.heap.size + 2) W0 V4 C4 W ∧ W.heap[h]? = some (.cells #[.int .i64 p, .int .i64 q, .int .i64 r, .int .i64 s, .int .i64 t, .int .i64 z] 69 (0, 0))) ⟨hP, (heap_setCell_ne _ (by have := HH.out; omega)).trans hI⟩ ?_
              clear hP hI hA hown hgrow hat hg1 hfz hcc ec ei HS3 HI hV4 hC4 b1 b2
              rintro Y4 ⟨hs, hit⟩
              have HS4 := Lib.hid hs
              have HI := Lib.hid hit
              have ec := hs.cell (show 11 < 15 by decide)
              have ei := cell_of_row Y4 h 4 _ _ (0, 0) hit
              clear hs hit
              have b1 : (C4 11).length + 1 ≤ maxLen := by have := HL4.out 11 (by decide); unfold maxLen; omega
              have b2 : ((C4 11).length + 1) * 8 ≤ 140737488355328 := by have := HL4.out 11 (by decide); omega
              go_upto_region 26 with (at_builtin; (refine wpList_append_own_at _ rfl _ _ 59 rfl (w.heap.size + 3) 2 i0 (.int .i64 0) 1 8 Tryz.underlying59 hi0 hz0 hz1 hz2 rfl (by decide) _ _ _ rfl ((HS4.out.own 11 (by decide)).alloc _) ⟨Y4.heap.size, 0, none⟩ 1 1 [.int .i64 t] rfl rfl (cell_one_new _ _ _) (by simp [Value.oneCell']) b1 b2 (Nat.le_trans HS4.out.sz (by simp)) ?_; intro v4 S4 hown hgrow _ hat; obtain ⟨av4, cv4, hv⟩ := own_formS hown; subst hv; have hA := HS4.out.below ((Below.refl _ _).alloc (Nat.le_refl _) (.cells #[.int .i64 t] 2)); have hP := hA.put (by decide) hown hgrow hat; have hI := item_kept ((Below.heap_alloc _ _ _ (Array.getElem?_eq_some_iff.1 HI.out).1).trans HI.out) (by decide) (hA.own 11 (by decide)) hgrow; have hg1 := (hgrow.block (w.heap.size + 2) (Nat.lt_of_lt_of_le hA.gB hA.sz) (fun e => by have h1 := hA.own_lt (show 11 < 15 by decide) _ e.symm; omega)).trans hA.box; have hfz := free_of_blkN hg1 11; have hcc := cell_of_row _ _ 11 _ _ (0, 0) hg1))
              obtain ⟨V5, hV5⟩ : ∃ VV : Nat → Value, upd V4 11 (.slice av4 ((C4 11).length + 1) cv4) = VV := ⟨_, rfl⟩
              obtain ⟨C5, hC5⟩ : ∃ CC, upd C4 11 (C4 11 ++ [t]) = CC := ⟨_, rfl⟩
              rw [hV5, hC5] at hP
              have HL5 := Lib.hid (show ∀ j, j < 15 → (C5 j).length ≤ 2005 from fun j hj => by rw [← hC5]; exact upd_len HL4.out (by decide) j hj)
              have E5 := Lib.hid hC5
              refine at_world (Φ := fun W => ColsS (w.heap.size + 3) (w.heap.size + 2) W0 V5 C5 W ∧ W.heap[h]? = some (.cells #[.int .i64 p, .int .i64 q, .int .i64 r, .int .i64 s, .int .i64 t, .int .i64 z] 69 (0, 0))) ⟨hP, (heap_setCell_ne _ (by have := HH.out; omega)).trans hI⟩ ?_
              clear hP hI hA hown hgrow hat hg1 hfz hcc ec ei HS4 HI hV5 hC5 b1 b2
              rintro Y5 ⟨hs, hit⟩
              have HS5 := Lib.hid hs
              have HI := Lib.hid hit
              have ec := hs.cell (show 12 < 15 by decide)
              have ei := cell_of_row Y5 h 5 _ _ (0, 0) hit
              clear hs hit
              have b1 : (C5 12).length + 1 ≤ maxLen := by have := HL5.out 12 (by decide); unfold maxLen; omega
              have b2 : ((C5 12).length + 1) * 8 ≤ 140737488355328 := by have := HL5.out 12 (by decide); omega
              go_wp2_with (at_builtin; (refine wpList_append_own_at _ rfl _ _ 59 rfl (w.heap.size + 3) 2 i0 (.int .i64 0) 1 8 Tryz.underlying59 hi0 hz0 hz1 hz2 rfl (by decide) _ _ _ rfl ((HS5.out.own 12 (by decide)).alloc _) ⟨Y5.heap.size, 0, none⟩ 1 1 [.int .i64 z] rfl rfl (cell_one_new _ _ _) (by simp [Value.oneCell']) b1 b2 (Nat.le_trans HS5.out.sz (by simp)) ?_; intro v5 S5 hown hgrow _ hat; obtain ⟨av5, cv5, hv⟩ := own_formS hown; subst hv; have hA := HS5.out.below ((Below.refl _ _).alloc (Nat.le_refl _) (.cells #[.int .i64 z] 2)); have hP := hA.put (by decide) hown hgrow hat; have hI := item_kept ((Below.heap_alloc _ _ _ (Array.getElem?_eq_some_iff.1 HI.out).1).trans HI.out) (by decide) (hA.own 12 (by decide)) hgrow; have hg1 := (hgrow.block (w.heap.size + 2) (Nat.lt_of_lt_of_le hA.gB hA.sz) (fun e => by have h1 := hA.own_lt (show 12 < 15 by decide) _ e.symm; omega)).trans hA.box; have hfz := free_of_blkN hg1 12; have hcc := cell_of_row _ _ 12 _ _ (0, 0) hg1))
              obtain ⟨V6, hV6⟩ : ∃ VV : Nat → Value, upd V5 12 (.slice av5 ((C5 12).length + 1) cv5) = VV := ⟨_, rfl⟩
              obtain ⟨C6, hC6⟩ : ∃ CC, upd C5 12 (C5 12 ++ [z]) = CC := ⟨_, rfl⟩
              rw [hV6, hC6] at hP
              have HL6 := Lib.hid (show ∀ j, j < 15 → (C6 j).length ≤ 2006 from fun j hj => by rw [← hC6]; exact upd_len HL5.out (by decide) j hj)
              have E6 := Lib.hid hC6
              have HP := Lib.hid hP
              go_roundw
              case rel => exact ⟨i + 1, by go_num, hlt, _, _, HP.out, cols_next2 HX.out HC.out E1.out E2.out E3.out E4.out E5.out E6.out⟩
              case measure => simp [intOf]; omega
            · have HCF := Lib.hid (show ∀ j, j < 15 → C j = colAt b b.hs.length b.ss.length b.os.length 0 j from fun j hj => by have h := HC.out j hj; rw [show i = b.os.length by omega] at h; exact h)
              clear HC
              have HC := Lib.hid HCF.out
              clear HCF
              go_wp2
              clear hlt hi e0 e1 e2 e3 e4 hlen
              go_loopw [10] (fun vi W => ∃ i : Nat, vi = .int .i64 (i : Int) ∧ i ≤ b.rs.length ∧ ∃ V C, ColsS (w.heap.size + 3) (w.heap.size + 2) W0 V C W ∧ ∀ j, j < 15 → C j = colAt b b.hs.length b.ss.length b.os.length i j) (fun vi _ => b.rs.length - (intOf vi).toNat)
              case atStart => exact ⟨0, rfl, Nat.zero_le _, _, _, HS.out, fun j hj => (HC.out j hj).trans (by unfold colAt colT; simp)⟩
              case round =>
                clear HS HC
                obtain ⟨i, rfl, hi, V, C, hs, hc⟩ := hrel
                have HS := Lib.hid hs
                have HC := Lib.hid hc
                have hlen := HK.out.rs.1
                clear hs hc
                obtain ⟨e0, e1, e2, e3, e4⟩ := HBX.out _ HS.out.lo
                by_cases hlt : i < b.rs.length
                · obtain ⟨x, hx⟩ : ∃ x, b.rs[i]? = some x := ⟨b.rs[i], by simp [hlt]⟩
                  obtain ⟨b0, off, ha, hb0, hcs⟩ := HBI.out.rs.at hx
                  obtain ⟨p, q, rfl⟩ := item2 (HK.out.rs.2 _ (List.mem_of_getElem? hx)).1
                  have HAR := Lib.hid ha
                  have HX := Lib.hid hx
                  have HL0 := Lib.hid (show ∀ j, j < 15 → (C j).length ≤ 2000 from fun j hj => by rw [HC.out j hj]; exact colAt_len HK.out _ _ _ _ _)
                  rw [ha] at e3
                  have k0 := hcs _ (HLO.out _ HS.out.lo) 0 p rfl
                  have k1 := hcs _ (HLO.out _ HS.out.lo) 1 q rfl
                  rw [Nat.add_zero] at k0
                  have HCS := Lib.hid (fun W (h : Below (w.heap.size + 2) W0 W) => hcs W (HLO.out W h))
                  clear hcs ha hx
                  have HA := Lib.hid HAR.out
                  clear HAR e0 e1 e2 e4 k0 k1
                  go_upto_region 30 with (fail)
                  have HS0 := Lib.hid HS.out
                  have HSD := Lib.hid (show ColsS (w.heap.size + 3) (w.heap.size + 2) W0 V C wr.drew from HS0.out.below (below_drews 1))
                  refine wp_region_held_drew (S := fun W => Below (w.heap.size + 2) W0 W) (by kernel_rfl) (HSD.out.lo) (fun hS => ?_)
                  refine wpAnyH_take (i := 0) (v := .pointer (some ⟨w.heap.size + 1 + 1, 13, none⟩)) rfl (by kernel_rfl) (by kernel_rfl) (by kernel_rfl) (fun _ _ _ h => h) (Or.inl ⟨by simp [Region.wanted], fun W _ => by go_simp⟩) hS ?_
                  simp only [List.getElem_toArray, List.getElem_cons_zero, Act.put, List.setIfInBounds_toArray, List.set_cons_zero, List.set_cons_succ]
                  refine wpAnyH_take (i := 2) (v := .pointer (some ⟨w.heap.size, 3, none⟩)) rfl (by kernel_rfl) (by kernel_rfl) (by kernel_rfl) (fun _ _ _ h => h) (Or.inl ⟨by simp [Region.wanted], fun W _ => by go_simp⟩) hS ?_
                  simp only [List.getElem_toArray, List.getElem_cons_zero, List.getElem_cons_succ, Act.put, List.setIfInBounds_toArray, List.set_cons_zero, List.set_cons_succ]
                  refine wpAnyH_take (i := 3) (v := .slice (some ⟨b0, off, none⟩) b.rs.length v.cr) rfl (by kernel_rfl) (by kernel_rfl) (by kernel_rfl) (fun _ _ _ h => h) (Or.inl ⟨by simp [Region.wanted], fun W hW => by obtain ⟨e0, e1, e2, e3, e4⟩ := HBX.out W hW; rw [HA.out] at e3; go_simp⟩) hS ?_
                  simp only [List.getElem_toArray, List.getElem_cons_zero, List.getElem_cons_succ, Act.put, List.setIfInBounds_toArray, List.set_cons_zero, List.set_cons_succ]
                  refine wpAnyH_take (i := 4) (v := .int .i64 (i : Int)) rfl (by kernel_rfl) (by kernel_rfl) (by kernel_rfl) (fun _ _ _ h => h) (Or.inl ⟨by simp [Region.wanted], fun W _ => by go_simp⟩) hS ?_
                  simp only [List.getElem_toArray, List.getElem_cons_zero, List.getElem_cons_succ, Act.put, List.setIfInBounds_toArray, List.set_cons_zero, List.set_cons_succ]
                  refine wpAnyH_take (i := 5) (v := .pointer (some ⟨b0, off + i * 2, none⟩)) rfl (by kernel_rfl) (by kernel_rfl) (by kernel_rfl) (fun _ _ _ h => h) (Or.inl ⟨by simp [Region.wanted], fun W _ => by go_simp⟩) hS ?_
                  simp only [List.getElem_toArray, List.getElem_cons_zero, List.getElem_cons_succ, Act.put, List.setIfInBounds_toArray, List.set_cons_zero, List.set_cons_succ]
                  refine wpAnyH_take (i := 6) (v := .pointer (some ⟨b0, off + i * 2, none⟩)) rfl (by kernel_rfl) (by kernel_rfl) (by kernel_rfl) (fun _ _ _ h => h) (Or.inl ⟨by simp [Region.wanted], fun W _ => by go_simp⟩) hS ?_
                  simp only [List.getElem_toArray, List.getElem_cons_zero, List.getElem_cons_succ, Act.put, List.setIfInBounds_toArray, List.set_cons_zero, List.set_cons_succ]
                  refine wpAnyH_take (i := 7) (v := .int .i64 p) rfl (by kernel_rfl) (by kernel_rfl) (by kernel_rfl) (fun _ _ _ h => h) (Or.inl ⟨by simp [Region.wanted], fun W hW => by have kk := HCS.out W hW 0 p rfl; rw [Nat.add_zero] at kk; go_simp⟩) hS ?_
                  simp only [List.getElem_toArray, List.getElem_cons_zero, List.getElem_cons_succ, Act.put, List.setIfInBounds_toArray, List.set_cons_zero, List.set_cons_succ]
                  have b1 : (C 13).length + 1 ≤ maxLen := by have := HL0.out 13 (by decide); unfold maxLen; omega
                  have b2 : ((C 13).length + 1) * 8 ≤ 140737488355328 := by have := HL0.out 13 (by decide); omega
                  have HAL := Lib.hid (show ColsS (w.heap.size + 3) (w.heap.size + 2) W0 V C (wr.alloc (.cells #[.int .i64 p] 2)).drew from (HS0.out.below ((Below.refl _ _).alloc (Nat.le_refl _) (.cells #[.int .i64 p] 2))).below (below_drews 1))
                  clear hS
                  refine wpAnyH_ready (rs := [1, 8]) (by kernel_rfl) (by simp) ?_
                  refine AllReadyH.cons rfl (fun KA hKA => ?_) (AllReadyH.cons rfl (fun KA hKA => ?_) AllReadyH.nil)
                  · refine wanted_go rfl ?_
                    simp only [List.getElem_toArray, List.getElem_cons_zero, List.getElem_cons_succ]
                    have ec := HSD.out.cell (show 13 < 15 by decide)
                    go_wp2
                    refine hKA.out _ _ HSD.out.lo (fun _ => ?_)
                    clear ec
                    refine wpAnyH_ready (rs := [8]) (by kernel_rfl) (by simp) ?_
                    refine AllReadyH.cons rfl (fun KB hKB => ?_) AllReadyH.nil
                    refine wanted_go rfl ?_
                    simp only [List.getElem_toArray, List.getElem_cons_zero, List.getElem_cons_succ]
                    go_wp2
                    refine hKB.out _ _ HAL.out.lo (fun _ => ?_)
                    obtain ⟨v0, S0, hr, hown, hgrow, _, hat⟩ := run_append_own_at (P := Tryz.prog) _ (w.heap.size + 3) 59 59 2 i0 (.int .i64 0) 1 8 Tryz.underlying59 hi0 hz0 hz1 hz2 rfl (by decide) _ _ _ (HAL.out.own 13 (by decide)) ⟨wr.heap.size, 0, none⟩ 1 1 [.int .i64 p] rfl (fun j u hu => cell_one_new wr _ 2 j u hu) (by simp [Value.oneCell']) b1 b2 HAL.out.sz
                    obtain ⟨av0, cv0, hv⟩ := own_formS hown
                    subst hv
                    have hP := HAL.out.put (by decide) hown hgrow hat
                    have hLG := HAL.out.lo_grown (show 13 < 15 by decide) hgrow
                    have hg1 := (hgrow.block (w.heap.size + 2) (Nat.lt_of_lt_of_le HAL.out.gB HAL.out.sz) (fun e => by have h1 := HAL.out.own_lt (show 13 < 15 by decide) _ e.symm; omega)).trans HAL.out.box
                    have hfz := free_of_blkN hg1 13
                    have hcc := cell_of_row _ _ 13 _ _ (0, 0) hg1
                    refine wpAnyH_ready (rs := [9]) (by kernel_rfl) (by simp) ?_
                    refine AllReadyH.cons rfl (fun KE hKE => ?_) AllReadyH.nil
                    refine wanted_go rfl ?_
                    simp only [List.getElem_toArray, List.getElem_cons_zero, List.getElem_cons_succ]
                    refine Lib.wp_append_run _ _ _ _ _ rfl _ _ rfl rfl _ _ hr ?_
                    refine hKE.out _ _ hLG (fun hSE => ?_)
                    refine wpAnyH_take (i := 10) (v := .pointer (some ⟨w.heap.size + 1 + 1, 13, none⟩)) rfl (by kernel_rfl) (by kernel_rfl) (by kernel_rfl) (fun _ _ _ h => h) (Or.inl ⟨by simp [Region.wanted], fun W _ => by go_simp⟩) hSE ?_
                    simp only [List.getElem_toArray, List.getElem_cons_zero, List.getElem_cons_succ, Act.put, List.setIfInBounds_toArray, List.set_cons_zero, List.set_cons_succ]
                    refine wpAnyH_ready (rs := [11]) (by kernel_rfl) (by simp) ?_
                    refine AllReadyH.cons rfl (fun KF hKF => ?_) AllReadyH.nil
                    refine wanted_go rfl ?_
                    simp only [List.getElem_toArray, List.getElem_cons_zero, List.getElem_cons_succ]
                    go_wp2
                    refine hKF.out _ _ (hLG.setCell (p := ⟨w.heap.size + 2, 13, none⟩) (Nat.le_refl _) _) (fun _ => ?_)
                    refine wpAnyH_done (by kernel_rfl) ?_ _
                    obtain ⟨V1, hV1⟩ : ∃ VV : Nat → Value, upd V 13 (.slice av0 ((C 13).length + 1) cv0) = VV := ⟨_, rfl⟩
                    obtain ⟨C1, hC1⟩ : ∃ CC, upd C 13 (C 13 ++ [p]) = CC := ⟨_, rfl⟩
                    rw [hV1, hC1] at hP
                    have HL1 := Lib.hid (show ∀ j, j < 15 → (C1 j).length ≤ 2001 from fun j hj => by rw [← hC1]; exact upd_len HL0.out (by decide) j hj)
                    have E1 := Lib.hid hC1
                    have HP1 := Lib.hid hP
                    clear hP hLG hown hgrow hat hg1 hfz hcc hSE HAL HSD hV1 hC1 b1 b2 hr
                    go_upto_region 31 with (fail)
                    refine at_world (Φ := fun W => ColsS (w.heap.size + 3) (w.heap.size + 2) W0 V1 C1 W) HP1.out ?_
                    clear HP1
                    rintro Y1 hs
                    have HS1 := Lib.hid hs
                    clear hs
                    try simp only [Act.put]
                    have HSD := Lib.hid (show ColsS (w.heap.size + 3) (w.heap.size + 2) W0 V1 C1 Y1.drew from HS1.out.below (below_drews 1))
                    refine wp_region_held_drew (S := fun W => Below (w.heap.size + 2) W0 W) (by kernel_rfl) (HSD.out.lo) (fun hS => ?_)
                    refine wpAnyH_take (i := 0) (v := .pointer (some ⟨w.heap.size + 1 + 1, 14, none⟩)) rfl (by kernel_rfl) (by kernel_rfl) (by kernel_rfl) (fun _ _ _ h => h) (Or.inl ⟨by simp [Region.wanted], fun W _ => by go_simp⟩) hS ?_
                    simp only [List.getElem_toArray, List.getElem_cons_zero, Act.put, List.setIfInBounds_toArray, List.set_cons_zero, List.set_cons_succ]
                    refine wpAnyH_take (i := 2) (v := .pointer (some ⟨w.heap.size, 3, none⟩)) rfl (by kernel_rfl) (by kernel_rfl) (by kernel_rfl) (fun _ _ _ h => h) (Or.inl ⟨by simp [Region.wanted], fun W _ => by go_simp⟩) hS ?_
                    simp only [List.getElem_toArray, List.getElem_cons_zero, List.getElem_cons_succ, Act.put, List.setIfInBounds_toArray, List.set_cons_zero, List.set_cons_succ]
                    refine wpAnyH_take (i := 3) (v := .slice (some ⟨b0, off, none⟩) b.rs.length v.cr) rfl (by kernel_rfl) (by kernel_rfl) (by kernel_rfl) (fun _ _ _ h => h) (Or.inl ⟨by simp [Region.wanted], fun W hW => by obtain ⟨e0, e1, e2, e3, e4⟩ := HBX.out W hW; rw [HA.out] at e3; go_simp⟩) hS ?_
                    simp only [List.getElem_toArray, List.getElem_cons_zero, List.getElem_cons_succ, Act.put, List.setIfInBounds_toArray, List.set_cons_zero, List.set_cons_succ]
                    refine wpAnyH_take (i := 4) (v := .int .i64 (i : Int)) rfl (by kernel_rfl) (by kernel_rfl) (by kernel_rfl) (fun _ _ _ h => h) (Or.inl ⟨by simp [Region.wanted], fun W _ => by go_simp⟩) hS ?_
                    simp only [List.getElem_toArray, List.getElem_cons_zero, List.getElem_cons_succ, Act.put, List.setIfInBounds_toArray, List.set_cons_zero, List.set_cons_succ]
                    refine wpAnyH_take (i := 5) (v := .pointer (some ⟨b0, off + i * 2, none⟩)) rfl (by kernel_rfl) (by kernel_rfl) (by kernel_rfl) (fun _ _ _ h => h) (Or.inl ⟨by simp [Region.wanted], fun W _ => by go_simp⟩) hS ?_
                    simp only [List.getElem_toArray, List.getElem_cons_zero, List.getElem_cons_succ, Act.put, List.setIfInBounds_toArray, List.set_cons_zero, List.set_cons_succ]
                    refine wpAnyH_take (i := 6) (v := .pointer (some ⟨b0, off + i * 2 + 1, none⟩)) rfl (by kernel_rfl) (by kernel_rfl) (by kernel_rfl) (fun _ _ _ h => h) (Or.inl ⟨by simp [Region.wanted], fun W _ => by go_simp⟩) hS ?_
                    simp only [List.getElem_toArray, List.getElem_cons_zero, List.getElem_cons_succ, Act.put, List.setIfInBounds_toArray, List.set_cons_zero, List.set_cons_succ]
                    refine wpAnyH_take (i := 7) (v := .int .i64 q) rfl (by kernel_rfl) (by kernel_rfl) (by kernel_rfl) (fun _ _ _ h => h) (Or.inl ⟨by simp [Region.wanted], fun W hW => by have kk := HCS.out W hW 1 q rfl; skip; go_simp⟩) hS ?_
                    simp only [List.getElem_toArray, List.getElem_cons_zero, List.getElem_cons_succ, Act.put, List.setIfInBounds_toArray, List.set_cons_zero, List.set_cons_succ]
                    have b1 : (C1 14).length + 1 ≤ maxLen := by have := HL1.out 14 (by decide); unfold maxLen; omega
                    have b2 : ((C1 14).length + 1) * 8 ≤ 140737488355328 := by have := HL1.out 14 (by decide); omega
                    have HAL := Lib.hid (show ColsS (w.heap.size + 3) (w.heap.size + 2) W0 V1 C1 (Y1.alloc (.cells #[.int .i64 q] 2)).drew from (HS1.out.below ((Below.refl _ _).alloc (Nat.le_refl _) (.cells #[.int .i64 q] 2))).below (below_drews 1))
                    clear hS
                    refine wpAnyH_ready (rs := [1, 8]) (by kernel_rfl) (by simp) ?_
                    refine AllReadyH.cons rfl (fun KA hKA => ?_) (AllReadyH.cons rfl (fun KA hKA => ?_) AllReadyH.nil)
                    · refine wanted_go rfl ?_
                      simp only [List.getElem_toArray, List.getElem_cons_zero, List.getElem_cons_succ]
                      have ec := HSD.out.cell (show 14 < 15 by decide)
                      go_wp2
                      refine hKA.out _ _ HSD.out.lo (fun _ => ?_)
                      clear ec
                      refine wpAnyH_ready (rs := [8]) (by kernel_rfl) (by simp) ?_
                      refine AllReadyH.cons rfl (fun KB hKB => ?_) AllReadyH.nil
                      refine wanted_go rfl ?_
                      simp only [List.getElem_toArray, List.getElem_cons_zero, List.getElem_cons_succ]
                      go_wp2
                      refine hKB.out _ _ HAL.out.lo (fun _ => ?_)
                      obtain ⟨v1, S1, hr, hown, hgrow, _, hat⟩ := run_append_own_at (P := Tryz.prog) _ (w.heap.size + 3) 59 59 2 i0 (.int .i64 0) 1 8 Tryz.underlying59 hi0 hz0 hz1 hz2 rfl (by decide) _ _ _ (HAL.out.own 14 (by decide)) ⟨Y1.heap.size, 0, none⟩ 1 1 [.int .i64 q] rfl (fun j u hu => cell_one_new Y1 _ 2 j u hu) (by simp [Value.oneCell']) b1 b2 HAL.out.sz
                      obtain ⟨av1, cv1, hv⟩ := own_formS hown
                      subst hv
                      have hP := HAL.out.put (by decide) hown hgrow hat
                      have hLG := HAL.out.lo_grown (show 14 < 15 by decide) hgrow
                      have hg1 := (hgrow.block (w.heap.size + 2) (Nat.lt_of_lt_of_le HAL.out.gB HAL.out.sz) (fun e => by have h1 := HAL.out.own_lt (show 14 < 15 by decide) _ e.symm; omega)).trans HAL.out.box
                      have hfz := free_of_blkN hg1 14
                      have hcc := cell_of_row _ _ 14 _ _ (0, 0) hg1
                      refine wpAnyH_ready (rs := [9]) (by kernel_rfl) (by simp) ?_
                      refine AllReadyH.cons rfl (fun KE hKE => ?_) AllReadyH.nil
                      refine wanted_go rfl ?_
                      simp only [List.getElem_toArray, List.getElem_cons_zero, List.getElem_cons_succ]
                      refine Lib.wp_append_run _ _ _ _ _ rfl _ _ rfl rfl _ _ hr ?_
                      refine hKE.out _ _ hLG (fun hSE => ?_)
                      refine wpAnyH_take (i := 10) (v := .pointer (some ⟨w.heap.size + 1 + 1, 14, none⟩)) rfl (by kernel_rfl) (by kernel_rfl) (by kernel_rfl) (fun _ _ _ h => h) (Or.inl ⟨by simp [Region.wanted], fun W _ => by go_simp⟩) hSE ?_
                      simp only [List.getElem_toArray, List.getElem_cons_zero, List.getElem_cons_succ, Act.put, List.setIfInBounds_toArray, List.set_cons_zero, List.set_cons_succ]
                      refine wpAnyH_ready (rs := [11]) (by kernel_rfl) (by simp) ?_
                      refine AllReadyH.cons rfl (fun KF hKF => ?_) AllReadyH.nil
                      refine wanted_go rfl ?_
                      simp only [List.getElem_toArray, List.getElem_cons_zero, List.getElem_cons_succ]
                      go_wp2
                      refine hKF.out _ _ (hLG.setCell (p := ⟨w.heap.size + 2, 14, none⟩) (Nat.le_refl _) _) (fun _ => ?_)
                      refine wpAnyH_done (by kernel_rfl) ?_ _
                      obtain ⟨V2, hV2⟩ : ∃ VV : Nat → Value, upd V1 14 (.slice av1 ((C1 14).length + 1) cv1) = VV := ⟨_, rfl⟩
                      obtain ⟨C2, hC2⟩ : ∃ CC, upd C1 14 (C1 14 ++ [q]) = CC := ⟨_, rfl⟩
                      rw [hV2, hC2] at hP
                      have HL2 := Lib.hid (show ∀ j, j < 15 → (C2 j).length ≤ 2002 from fun j hj => by rw [← hC2]; exact upd_len HL1.out (by decide) j hj)
                      have E2 := Lib.hid hC2
                      have HP2 := Lib.hid hP
                      clear hP hLG hown hgrow hat hg1 hfz hcc hSE HAL HSD hV2 hC2 b1 b2 hr
                      go_wp2
                      go_roundw
                      case rel => exact ⟨i + 1, by go_num, hlt, _, _, HP2.out, cols_next3 HX.out HC.out E1.out E2.out⟩
                      case measure => simp [intOf]; omega
                    · refine wanted_go rfl ?_
                      simp only [List.getElem_toArray, List.getElem_cons_zero, List.getElem_cons_succ]
                      go_wp2
                      refine hKA.out _ _ HAL.out.lo (fun _ => ?_)
                      refine wpAnyH_ready (rs := [1]) (by kernel_rfl) (by simp) ?_
                      refine AllReadyH.cons rfl (fun KB hKB => ?_) AllReadyH.nil
                      refine wanted_go rfl ?_
                      simp only [List.getElem_toArray, List.getElem_cons_zero, List.getElem_cons_succ]
                      have ec := HAL.out.cell (show 14 < 15 by decide)
                      go_wp2
                      refine hKB.out _ _ HAL.out.lo (fun _ => ?_)
                      clear ec
                      obtain ⟨v1, S1, hr, hown, hgrow, _, hat⟩ := run_append_own_at (P := Tryz.prog) _ (w.heap.size + 3) 59 59 2 i0 (.int .i64 0) 1 8 Tryz.underlying59 hi0 hz0 hz1 hz2 rfl (by decide) _ _ _ (HAL.out.own 14 (by decide)) ⟨Y1.heap.size, 0, none⟩ 1 1 [.int .i64 q] rfl (fun j u hu => cell_one_new Y1 _ 2 j u hu) (by simp [Value.oneCell']) b1 b2 HAL.out.sz
                      obtain ⟨av1, cv1, hv⟩ := own_formS hown
                      subst hv
                      have hP := HAL.out.put (by decide) hown hgrow hat
                      have hLG := HAL.out.lo_grown (show 14 < 15 by decide) hgrow
                      have hg1 := (hgrow.block (w.heap.size + 2) (Nat.lt_of_lt_of_le HAL.out.gB HAL.out.sz) (fun e => by have h1 := HAL.out.own_lt (show 14 < 15 by decide) _ e.symm; omega)).trans HAL.out.box
                      have hfz := free_of_blkN hg1 14
                      have hcc := cell_of_row _ _ 14 _ _ (0, 0) hg1
                      refine wpAnyH_ready (rs := [9]) (by kernel_rfl) (by simp) ?_
                      refine AllReadyH.cons rfl (fun KE hKE => ?_) AllReadyH.nil
                      refine wanted_go rfl ?_
                      simp only [List.getElem_toArray, List.getElem_cons_zero, List.getElem_cons_succ]
                      refine Lib.wp_append_run _ _ _ _ _ rfl _ _ rfl rfl _ _ hr ?_
                      refine hKE.out _ _ hLG (fun hSE => ?_)
                      refine wpAnyH_take (i := 10) (v := .pointer (some ⟨w.heap.size + 1 + 1, 14, none⟩)) rfl (by kernel_rfl) (by kernel_rfl) (by kernel_rfl) (fun _ _ _ h => h) (Or.inl ⟨by simp [Region.wanted], fun W _ => by go_simp⟩) hSE ?_
                      simp only [List.getElem_toArray, List.getElem_cons_zero, List.getElem_cons_succ, Act.put, List.setIfInBounds_toArray, List.set_cons_zero, List.set_cons_succ]
                      refine wpAnyH_ready (rs := [11]) (by kernel_rfl) (by simp) ?_
                      refine AllReadyH.cons rfl (fun KF hKF => ?_) AllReadyH.nil
                      refine wanted_go rfl ?_
                      simp only [List.getElem_toArray, List.getElem_cons_zero, List.getElem_cons_succ]
                      go_wp2
                      refine hKF.out _ _ (hLG.setCell (p := ⟨w.heap.size + 2, 14, none⟩) (Nat.le_refl _) _) (fun _ => ?_)
                      refine wpAnyH_done (by kernel_rfl) ?_ _
                      obtain ⟨V2, hV2⟩ : ∃ VV : Nat → Value, upd V1 14 (.slice av1 ((C1 14).length + 1) cv1) = VV := ⟨_, rfl⟩
                      obtain ⟨C2, hC2⟩ : ∃ CC, upd C1 14 (C1 14 ++ [q]) = CC := ⟨_, rfl⟩
                      rw [hV2, hC2] at hP
                      have HL2 := Lib.hid (show ∀ j, j < 15 → (C2 j).length ≤ 2002 from fun j hj => by rw [← hC2]; exact upd_len HL1.out (by decide) j hj)
                      have E2 := Lib.hid hC2
                      have HP2 := Lib.hid hP
                      clear hP hLG hown hgrow hat hg1 hfz hcc hSE HAL HSD hV2 hC2 b1 b2 hr
                      go_wp2
                      go_roundw
                      case rel => exact ⟨i + 1, by go_num, hlt, _, _, HP2.out, cols_next3 HX.out HC.out E1.out E2.out⟩
                      case measure => simp [intOf]; omega
                  · refine wanted_go rfl ?_
                    simp only [List.getElem_toArray, List.getElem_cons_zero, List.getElem_cons_succ]
                    go_wp2
                    refine hKA.out _ _ HAL.out.lo (fun _ => ?_)
                    refine wpAnyH_ready (rs := [1]) (by kernel_rfl) (by simp) ?_
                    refine AllReadyH.cons rfl (fun KB hKB => ?_) AllReadyH.nil
                    refine wanted_go rfl ?_
                    simp only [List.getElem_toArray, List.getElem_cons_zero, List.getElem_cons_succ]
                    have ec := HAL.out.cell (show 13 < 15 by decide)
                    go_wp2
                    refine hKB.out _ _ HAL.out.lo (fun _ => ?_)
                    clear ec
                    obtain ⟨v0, S0, hr, hown, hgrow, _, hat⟩ := run_append_own_at (P := Tryz.prog) _ (w.heap.size + 3) 59 59 2 i0 (.int .i64 0) 1 8 Tryz.underlying59 hi0 hz0 hz1 hz2 rfl (by decide) _ _ _ (HAL.out.own 13 (by decide)) ⟨wr.heap.size, 0, none⟩ 1 1 [.int .i64 p] rfl (fun j u hu => cell_one_new wr _ 2 j u hu) (by simp [Value.oneCell']) b1 b2 HAL.out.sz
                    obtain ⟨av0, cv0, hv⟩ := own_formS hown
                    subst hv
                    have hP := HAL.out.put (by decide) hown hgrow hat
                    have hLG := HAL.out.lo_grown (show 13 < 15 by decide) hgrow
                    have hg1 := (hgrow.block (w.heap.size + 2) (Nat.lt_of_lt_of_le HAL.out.gB HAL.out.sz) (fun e => by have h1 := HAL.out.own_lt (show 13 < 15 by decide) _ e.symm; omega)).trans HAL.out.box
                    have hfz := free_of_blkN hg1 13
                    have hcc := cell_of_row _ _ 13 _ _ (0, 0) hg1
                    refine wpAnyH_ready (rs := [9]) (by kernel_rfl) (by simp) ?_
                    refine AllReadyH.cons rfl (fun KE hKE => ?_) AllReadyH.nil
                    refine wanted_go rfl ?_
                    simp only [List.getElem_toArray, List.getElem_cons_zero, List.getElem_cons_succ]
                    refine Lib.wp_append_run _ _ _ _ _ rfl _ _ rfl rfl _ _ hr ?_
                    refine hKE.out _ _ hLG (fun hSE => ?_)
                    refine wpAnyH_take (i := 10) (v := .pointer (some ⟨w.heap.size + 1 + 1, 13, none⟩)) rfl (by kernel_rfl) (by kernel_rfl) (by kernel_rfl) (fun _ _ _ h => h) (Or.inl ⟨by simp [Region.wanted], fun W _ => by go_simp⟩) hSE ?_
                    simp only [List.getElem_toArray, List.getElem_cons_zero, List.getElem_cons_succ, Act.put, List.setIfInBounds_toArray, List.set_cons_zero, List.set_cons_succ]
                    refine wpAnyH_ready (rs := [11]) (by kernel_rfl) (by simp) ?_
                    refine AllReadyH.cons rfl (fun KF hKF => ?_) AllReadyH.nil
                    refine wanted_go rfl ?_
                    simp only [List.getElem_toArray, List.getElem_cons_zero, List.getElem_cons_succ]
                    go_wp2
                    refine hKF.out _ _ (hLG.setCell (p := ⟨w.heap.size + 2, 13, none⟩) (Nat.le_refl _) _) (fun _ => ?_)
                    refine wpAnyH_done (by kernel_rfl) ?_ _
                    obtain ⟨V1, hV1⟩ : ∃ VV : Nat → Value, upd V 13 (.slice av0 ((C 13).length + 1) cv0) = VV := ⟨_, rfl⟩
                    obtain ⟨C1, hC1⟩ : ∃ CC, upd C 13 (C 13 ++ [p]) = CC := ⟨_, rfl⟩
                    rw [hV1, hC1] at hP
                    have HL1 := Lib.hid (show ∀ j, j < 15 → (C1 j).length ≤ 2001 from fun j hj => by rw [← hC1]; exact upd_len HL0.out (by decide) j hj)
                    have E1 := Lib.hid hC1
                    have HP1 := Lib.hid hP
                    clear hP hLG hown hgrow hat hg1 hfz hcc hSE HAL HSD hV1 hC1 b1 b2 hr
                    go_upto_region 31 with (fail)
                    refine at_world (Φ := fun W => ColsS (w.heap.size + 3) (w.heap.size + 2) W0 V1 C1 W) HP1.out ?_
                    clear HP1
                    rintro Y1 hs
                    have HS1 := Lib.hid hs
                    clear hs
                    try simp only [Act.put]
                    have HSD := Lib.hid (show ColsS (w.heap.size + 3) (w.heap.size + 2) W0 V1 C1 Y1.drew from HS1.out.below (below_drews 1))
                    refine wp_region_held_drew (S := fun W => Below (w.heap.size + 2) W0 W) (by kernel_rfl) (HSD.out.lo) (fun hS => ?_)
                    refine wpAnyH_take (i := 0) (v := .pointer (some ⟨w.heap.size + 1 + 1, 14, none⟩)) rfl (by kernel_rfl) (by kernel_rfl) (by kernel_rfl) (fun _ _ _ h => h) (Or.inl ⟨by simp [Region.wanted], fun W _ => by go_simp⟩) hS ?_
                    simp only [List.getElem_toArray, List.getElem_cons_zero, Act.put, List.setIfInBounds_toArray, List.set_cons_zero, List.set_cons_succ]
                    refine wpAnyH_take (i := 2) (v := .pointer (some ⟨w.heap.size, 3, none⟩)) rfl (by kernel_rfl) (by kernel_rfl) (by kernel_rfl) (fun _ _ _ h => h) (Or.inl ⟨by simp [Region.wanted], fun W _ => by go_simp⟩) hS ?_
                    simp only [List.getElem_toArray, List.getElem_cons_zero, List.getElem_cons_succ, Act.put, List.setIfInBounds_toArray, List.set_cons_zero, List.set_cons_succ]
                    refine wpAnyH_take (i := 3) (v := .slice (some ⟨b0, off, none⟩) b.rs.length v.cr) rfl (by kernel_rfl) (by kernel_rfl) (by kernel_rfl) (fun _ _ _ h => h) (Or.inl ⟨by simp [Region.wanted], fun W hW => by obtain ⟨e0, e1, e2, e3, e4⟩ := HBX.out W hW; rw [HA.out] at e3; go_simp⟩) hS ?_
                    simp only [List.getElem_toArray, List.getElem_cons_zero, List.getElem_cons_succ, Act.put, List.setIfInBounds_toArray, List.set_cons_zero, List.set_cons_succ]
                    refine wpAnyH_take (i := 4) (v := .int .i64 (i : Int)) rfl (by kernel_rfl) (by kernel_rfl) (by kernel_rfl) (fun _ _ _ h => h) (Or.inl ⟨by simp [Region.wanted], fun W _ => by go_simp⟩) hS ?_
                    simp only [List.getElem_toArray, List.getElem_cons_zero, List.getElem_cons_succ, Act.put, List.setIfInBounds_toArray, List.set_cons_zero, List.set_cons_succ]
                    refine wpAnyH_take (i := 5) (v := .pointer (some ⟨b0, off + i * 2, none⟩)) rfl (by kernel_rfl) (by kernel_rfl) (by kernel_rfl) (fun _ _ _ h => h) (Or.inl ⟨by simp [Region.wanted], fun W _ => by go_simp⟩) hS ?_
                    simp only [List.getElem_toArray, List.getElem_cons_zero, List.getElem_cons_succ, Act.put, List.setIfInBounds_toArray, List.set_cons_zero, List.set_cons_succ]
                    refine wpAnyH_take (i := 6) (v := .pointer (some ⟨b0, off + i * 2 + 1, none⟩)) rfl (by kernel_rfl) (by kernel_rfl) (by kernel_rfl) (fun _ _ _ h => h) (Or.inl ⟨by simp [Region.wanted], fun W _ => by go_simp⟩) hS ?_
                    simp only [List.getElem_toArray, List.getElem_cons_zero, List.getElem_cons_succ, Act.put, List.setIfInBounds_toArray, List.set_cons_zero, List.set_cons_succ]
                    refine wpAnyH_take (i := 7) (v := .int .i64 q) rfl (by kernel_rfl) (by kernel_rfl) (by kernel_rfl) (fun _ _ _ h => h) (Or.inl ⟨by simp [Region.wanted], fun W hW => by have kk := HCS.out W hW 1 q rfl; skip; go_simp⟩) hS ?_
                    simp only [List.getElem_toArray, List.getElem_cons_zero, List.getElem_cons_succ, Act.put, List.setIfInBounds_toArray, List.set_cons_zero, List.set_cons_succ]
                    have b1 : (C1 14).length + 1 ≤ maxLen := by have := HL1.out 14 (by decide); unfold maxLen; omega
                    have b2 : ((C1 14).length + 1) * 8 ≤ 140737488355328 := by have := HL1.out 14 (by decide); omega
                    have HAL := Lib.hid (show ColsS (w.heap.size + 3) (w.heap.size + 2) W0 V1 C1 (Y1.alloc (.cells #[.int .i64 q] 2)).drew from (HS1.out.below ((Below.refl _ _).alloc (Nat.le_refl _) (.cells #[.int .i64 q] 2))).below (below_drews 1))
                    clear hS
                    refine wpAnyH_ready (rs := [1, 8]) (by kernel_rfl) (by simp) ?_
                    refine AllReadyH.cons rfl (fun KA hKA => ?_) (AllReadyH.cons rfl (fun KA hKA => ?_) AllReadyH.nil)
                    · refine wanted_go rfl ?_
                      simp only [List.getElem_toArray, List.getElem_cons_zero, List.getElem_cons_succ]
                      have ec := HSD.out.cell (show 14 < 15 by decide)
                      go_wp2
                      refine hKA.out _ _ HSD.out.lo (fun _ => ?_)
                      clear ec
                      refine wpAnyH_ready (rs := [8]) (by kernel_rfl) (by simp) ?_
                      refine AllReadyH.cons rfl (fun KB hKB => ?_) AllReadyH.nil
                      refine wanted_go rfl ?_
                      simp only [List.getElem_toArray, List.getElem_cons_zero, List.getElem_cons_succ]
                      go_wp2
                      refine hKB.out _ _ HAL.out.lo (fun _ => ?_)
                      obtain ⟨v1, S1, hr, hown, hgrow, _, hat⟩ := run_append_own_at (P := Tryz.prog) _ (w.heap.size + 3) 59 59 2 i0 (.int .i64 0) 1 8 Tryz.underlying59 hi0 hz0 hz1 hz2 rfl (by decide) _ _ _ (HAL.out.own 14 (by decide)) ⟨Y1.heap.size, 0, none⟩ 1 1 [.int .i64 q] rfl (fun j u hu => cell_one_new Y1 _ 2 j u hu) (by simp [Value.oneCell']) b1 b2 HAL.out.sz
                      obtain ⟨av1, cv1, hv⟩ := own_formS hown
                      subst hv
                      have hP := HAL.out.put (by decide) hown hgrow hat
                      have hLG := HAL.out.lo_grown (show 14 < 15 by decide) hgrow
                      have hg1 := (hgrow.block (w.heap.size + 2) (Nat.lt_of_lt_of_le HAL.out.gB HAL.out.sz) (fun e => by have h1 := HAL.out.own_lt (show 14 < 15 by decide) _ e.symm; omega)).trans HAL.out.box
                      have hfz := free_of_blkN hg1 14
                      have hcc := cell_of_row _ _ 14 _ _ (0, 0) hg1
                      refine wpAnyH_ready (rs := [9]) (by kernel_rfl) (by simp) ?_
                      refine AllReadyH.cons rfl (fun KE hKE => ?_) AllReadyH.nil
                      refine wanted_go rfl ?_
                      simp only [List.getElem_toArray, List.getElem_cons_zero, List.getElem_cons_succ]
                      refine Lib.wp_append_run _ _ _ _ _ rfl _ _ rfl rfl _ _ hr ?_
                      refine hKE.out _ _ hLG (fun hSE => ?_)
                      refine wpAnyH_take (i := 10) (v := .pointer (some ⟨w.heap.size + 1 + 1, 14, none⟩)) rfl (by kernel_rfl) (by kernel_rfl) (by kernel_rfl) (fun _ _ _ h => h) (Or.inl ⟨by simp [Region.wanted], fun W _ => by go_simp⟩) hSE ?_
                      simp only [List.getElem_toArray, List.getElem_cons_zero, List.getElem_cons_succ, Act.put, List.setIfInBounds_toArray, List.set_cons_zero, List.set_cons_succ]
                      refine wpAnyH_ready (rs := [11]) (by kernel_rfl) (by simp) ?_
                      refine AllReadyH.cons rfl (fun KF hKF => ?_) AllReadyH.nil
                      refine wanted_go rfl ?_
                      simp only [List.getElem_toArray, List.getElem_cons_zero, List.getElem_cons_succ]
                      go_wp2
                      refine hKF.out _ _ (hLG.setCell (p := ⟨w.heap.size + 2, 14, none⟩) (Nat.le_refl _) _) (fun _ => ?_)
                      refine wpAnyH_done (by kernel_rfl) ?_ _
                      obtain ⟨V2, hV2⟩ : ∃ VV : Nat → Value, upd V1 14 (.slice av1 ((C1 14).length + 1) cv1) = VV := ⟨_, rfl⟩
                      obtain ⟨C2, hC2⟩ : ∃ CC, upd C1 14 (C1 14 ++ [q]) = CC := ⟨_, rfl⟩
                      rw [hV2, hC2] at hP
                      have HL2 := Lib.hid (show ∀ j, j < 15 → (C2 j).length ≤ 2002 from fun j hj => by rw [← hC2]; exact upd_len HL1.out (by decide) j hj)
                      have E2 := Lib.hid hC2
                      have HP2 := Lib.hid hP
                      clear hP hLG hown hgrow hat hg1 hfz hcc hSE HAL HSD hV2 hC2 b1 b2 hr
                      go_wp2
                      go_roundw
                      case rel => exact ⟨i + 1, by go_num, hlt, _, _, HP2.out, cols_next3 HX.out HC.out E1.out E2.out⟩
                      case measure => simp [intOf]; omega
                    · refine wanted_go rfl ?_
                      simp only [List.getElem_toArray, List.getElem_cons_zero, List.getElem_cons_succ]
                      go_wp2
                      refine hKA.out _ _ HAL.out.lo (fun _ => ?_)
                      refine wpAnyH_ready (rs := [1]) (by kernel_rfl) (by simp) ?_
                      refine AllReadyH.cons rfl (fun KB hKB => ?_) AllReadyH.nil
                      refine wanted_go rfl ?_
                      simp only [List.getElem_toArray, List.getElem_cons_zero, List.getElem_cons_succ]
                      have ec := HAL.out.cell (show 14 < 15 by decide)
                      go_wp2
                      refine hKB.out _ _ HAL.out.lo (fun _ => ?_)
                      clear ec
                      obtain ⟨v1, S1, hr, hown, hgrow, _, hat⟩ := run_append_own_at (P := Tryz.prog) _ (w.heap.size + 3) 59 59 2 i0 (.int .i64 0) 1 8 Tryz.underlying59 hi0 hz0 hz1 hz2 rfl (by decide) _ _ _ (HAL.out.own 14 (by decide)) ⟨Y1.heap.size, 0, none⟩ 1 1 [.int .i64 q] rfl (fun j u hu => cell_one_new Y1 _ 2 j u hu) (by simp [Value.oneCell']) b1 b2 HAL.out.sz
                      obtain ⟨av1, cv1, hv⟩ := own_formS hown
                      subst hv
                      have hP := HAL.out.put (by decide) hown hgrow hat
                      have hLG := HAL.out.lo_grown (show 14 < 15 by decide) hgrow
                      have hg1 := (hgrow.block (w.heap.size + 2) (Nat.lt_of_lt_of_le HAL.out.gB HAL.out.sz) (fun e => by have h1 := HAL.out.own_lt (show 14 < 15 by decide) _ e.symm; omega)).trans HAL.out.box
                      have hfz := free_of_blkN hg1 14
                      have hcc := cell_of_row _ _ 14 _ _ (0, 0) hg1
                      refine wpAnyH_ready (rs := [9]) (by kernel_rfl) (by simp) ?_
                      refine AllReadyH.cons rfl (fun KE hKE => ?_) AllReadyH.nil
                      refine wanted_go rfl ?_
                      simp only [List.getElem_toArray, List.getElem_cons_zero, List.getElem_cons_succ]
                      refine Lib.wp_append_run _ _ _ _ _ rfl _ _ rfl rfl _ _ hr ?_
                      refine hKE.out _ _ hLG (fun hSE => ?_)
                      refine wpAnyH_take (i := 10) (v := .pointer (some ⟨w.heap.size + 1 + 1, 14, none⟩)) rfl (by kernel_rfl) (by kernel_rfl) (by kernel_rfl) (fun _ _ _ h => h) (Or.inl ⟨by simp [Region.wanted], fun W _ => by go_simp⟩) hSE ?_
                      simp only [List.getElem_toArray, List.getElem_cons_zero, List.getElem_cons_succ, Act.put, List.setIfInBounds_toArray, List.set_cons_zero, List.set_cons_succ]
                      refine wpAnyH_ready (rs := [11]) (by kernel_rfl) (by simp) ?_
                      refine AllReadyH.cons rfl (fun KF hKF => ?_) AllReadyH.nil
                      refine wanted_go rfl ?_
                      simp only [List.getElem_toArray, List.getElem_cons_zero, List.getElem_cons_succ]
                      go_wp2
                      refine hKF.out _ _ (hLG.setCell (p := ⟨w.heap.size + 2, 14, none⟩) (Nat.le_refl _) _) (fun _ => ?_)
                      refine wpAnyH_done (by kernel_rfl) ?_ _
                      obtain ⟨V2, hV2⟩ : ∃ VV : Nat → Value, upd V1 14 (.slice av1 ((C1 14).length + 1) cv1) = VV := ⟨_, rfl⟩
                      obtain ⟨C2, hC2⟩ : ∃ CC, upd C1 14 (C1 14 ++ [q]) = CC := ⟨_, rfl⟩
                      rw [hV2, hC2] at hP
                      have HL2 := Lib.hid (show ∀ j, j < 15 → (C2 j).length ≤ 2002 from fun j hj => by rw [← hC2]; exact upd_len HL1.out (by decide) j hj)
                      have E2 := Lib.hid hC2
                      have HP2 := Lib.hid hP
                      clear hP hLG hown hgrow hat hg1 hfz hcc hSE HAL HSD hV2 hC2 b1 b2 hr
                      go_wp2
                      go_roundw
                      case rel => exact ⟨i + 1, by go_num, hlt, _, _, HP2.out, cols_next3 HX.out HC.out E1.out E2.out⟩
                      case measure => simp [intOf]; omega
                · have HCF := Lib.hid (show ∀ j, j < 15 → C j = (colsT b).getD j [] from fun j hj => by have h := HC.out j hj; rw [h, show i = b.rs.length by omega]; exact colAt_all b j hj)
                  have HG := Lib.hid HS.out.box
                  have H1 := Lib.hid (HX1.out _ HS.out.lo)
                  have hVs : (((List.range 15).map V).toArray).size = 15 := by simp
                  have hV1 : (((List.range 15).map V).toArray).all (·.oneCell') = true := cols_one HS.out
                  obtain ⟨KS, hKS⟩ : ∃ k, ((List.range 15).map V).toArray = k := ⟨_, rfl⟩
                  rw [hKS] at HG hVs hV1
                  have HI15 := Lib.hid (show (Tryz.prog.info? 77).map (·.size) = some KS.size by rw [hVs]; exact info15)
                  have hold : #[Value.slice none 0 0, Value.slice none 0 0, Value.slice none 0 0, Value.slice none 0 0, Value.slice none 0 0, Value.slice none 0 0, Value.slice none 0 0, Value.slice none 0 0, Value.slice none 0 0, Value.slice none 0 0, Value.slice none 0 0, Value.slice none 0 0, Value.slice none 0 0, Value.slice none 0 0, Value.slice none 0 0].size = KS.size := by rw [hVs]; rfl
                  clear e0 e1 e2 e4 HC
                  go_wp2_with (first | ((with_reducible refine atStore (ty := 77) (x := .tmp 2) (y := .tmp 167) rfl ?_); refine wpList_store_row rfl 77 (.tmp 2) (.tmp 167) rfl (w.heap.size + 1) KS rfl rfl 77 #[.slice none 0 0, .slice none 0 0, .slice none 0 0, .slice none 0 0, .slice none 0 0, .slice none 0 0, .slice none 0 0, .slice none 0 0, .slice none 0 0, .slice none 0 0, .slice none 0 0, .slice none 0 0, .slice none 0 0, .slice none 0 0, .slice none 0 0] H1.out HI15.out hold hV1 ?_) | ((with_reducible refine atLoad (ty := 77) (x := .tmp 3) rfl ?_); refine wpList_load_row rfl 77 (.tmp 3) rfl (w.heap.size + 1 + 1) rfl 77 KS (0, 0) _ HG.out Tryz.underlying77 rfl HI15.out ?_))
                  refine ret_cell rfl rfl rfl (setRow_heap _ _ _ _ _ _ H1.out) Tryz.underlying77 rfl HI15.out ?_
                  exact ⟨V, by rw [hKS], fun j hj => by rw [← HCF.out j hj]; exact own_fromS (own_lowS (HS.out.own j hj) (fun k hk => setRow_ne KS (by omega))) (by omega), below_row1 (HLO.out _ HS.out.lo) (by omega)⟩
end Go.Proofs.YtnhljfhpfpfniaaGreat
