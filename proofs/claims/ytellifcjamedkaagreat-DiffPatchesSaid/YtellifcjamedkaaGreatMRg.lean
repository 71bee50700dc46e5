/- The document's sets in a book: their contracts. The document's sets in a book: their contracts. -/
import Derived.Test.YtellifcjamedkaaGreatMRe
namespace Go.Proofs.YtellifcjamedkaaGreat
open Go.RowKit Base Base2
set_option maxRecDepth 100000 in
set_option maxHeartbeats 8000000 in
theorem setholder27 (v : Slots) (b : BookT) (p0 q0 r0 s0 : Int) (w : World) (hb : BookIn w v b) (hk : ItemsOk 4 1000 b.hs) :
    Calls Tryz.prog 61 #[.agg (cellsB v b), .agg #[.int .i64 p0, .int .i64 q0, .int .i64 r0, .int .i64 s0]] w (BookAns w (setHolderT b [p0, q0, r0, s0])) := by
  obtain ⟨i0, hi0, hz0, hz1, hz2⟩ := info_parts infoH
  obtain ⟨W0, hW0⟩ : ∃ W, ((w.alloc (.cells (cellsB v b) 27)).alloc (.cells #[.int .i64 p0, .int .i64 q0, .int .i64 r0, .int .i64 s0] 71)).alloc (.cells #[.slice none 0 0, .slice none 0 0, .slice none 0 0, .slice none 0 0, .int .i64 0] 27) = W := ⟨_, rfl⟩
  have hlo : Below w.heap.size w W0 := by rw [← hW0]; exact (((Below.refl _ w).alloc (Nat.le_refl _) _).alloc (by simp) _).alloc (by simp; omega) _
  have hsz : w.heap.size + 3 ≤ W0.heap.size := by rw [← hW0]; simp
  have h3 := three_alloc (w := w) (A := .cells (cellsB v b) 27) (B := .cells #[.int .i64 p0, .int .i64 q0, .int .i64 r0, .int .i64 s0] 71) (C := .cells #[.slice none 0 0, .slice none 0 0, .slice none 0 0, .slice none 0 0, .int .i64 0] 27)
  rw [hW0] at h3
  obtain ⟨hx0, hx1, hx2, _⟩ := h3
  have HBX := Lib.hid (show ∀ W, Below (w.heap.size + 3) W0 W → BoxB W w.heap.size v b from fun W h => (h.block _ (by omega)).trans hx0)
  have HX1 := Lib.hid (show ∀ W, Below (w.heap.size + 3) W0 W → W.heap[w.heap.size + 1]? = some (.cells #[.int .i64 p0, .int .i64 q0, .int .i64 r0, .int .i64 s0] 71 (0, 0)) from fun W h => (h.block _ (by omega)).trans hx1)
  have HX2 := Lib.hid (show ∀ W, Below (w.heap.size + 3) W0 W → W.heap[w.heap.size + 1 + 1]? = some (.cells #[.slice none 0 0, .slice none 0 0, .slice none 0 0, .slice none 0 0, .int .i64 0] 27 (0, 0)) from fun W h => (h.block _ (by omega)).trans hx2)
  have HLO := Lib.hid (show ∀ W, Below (w.heap.size + 3) W0 W → Below w.heap.size w W from fun W h => hlo.trans (h.mono (by omega)))
  have HSI := Lib.hid (show SetSt (w.heap.size + 3) W0 71 4 [] (.slice none 0 0) W0 from SetSt.nil hsz)
  have HBI := Lib.hid hb
  have HROW := Lib.hid hb.hs
  have hkl := hk.1
  have HK := Lib.hid hk.2
  have HCB := Lib.hid (show ∀ W, Below (w.heap.size + 3) W0 W → W.cell? ⟨w.heap.size, 0, none⟩ = some (.slice v.h b.hs.length v.ch) from fun W h => (HBX.out W h).cells.1)
  have HCX := Lib.hid (show ∀ W, Below (w.heap.size + 3) W0 W → ∀ i, W.cell? ⟨w.heap.size + 1, i, none⟩ = #[.int .i64 p0, .int .i64 q0, .int .i64 r0, .int .i64 s0][i]? from fun W h i => cell_of_row _ _ _ _ 71 (0, 0) (HX1.out W h))
  have HRES := Lib.hid (show setHolderT b [p0, q0, r0, s0] = { b with hs := setL (ge1 [p0, q0, r0, s0]) (eq1 [p0, q0, r0, s0]) [p0, q0, r0, s0] false b.hs } from rfl)
  clear hx0 hx1 hx2 hlo hsz hb hk
  obtain ⟨L, hL⟩ : ∃ L, b.hs = L := ⟨_, rfl⟩
  obtain ⟨a, ha⟩ : ∃ a, v.h = a := ⟨_, rfl⟩
  obtain ⟨c, hc⟩ : ∃ c, v.ch = c := ⟨_, rfl⟩
  rw [hL] at HROW hkl HK HCB HRES
  rw [ha] at HROW HCB
  rw [hc] at HCB
  obtain ⟨POST, hP⟩ : ∃ P, BookAns w (setHolderT b [p0, q0, r0, s0]) = P := ⟨_, rfl⟩
  rw [hP]
  have HPO := Lib.hid hP
  have hcz : (cellsB v b).size = 5 := rfl
  obtain ⟨CB, hCB⟩ : ∃ C, cellsB v b = C := ⟨_, rfl⟩
  rw [hCB] at hW0 hcz ⊢
  have HCC := Lib.hid hCB
  have HZ5 := Lib.hid hcz
  clear hL ha hc hP hCB hcz
  have c1 := HCX.out W0 (Below.refl _ _)
  go_enter Tryz.func61, Tryz.ntmps61
  go_wp2
  clear hW0 c1
  go_loopw [5, 6, 7] (fun vo vd vi W => ∃ (j : Nat) (o : List Item) (d : Bool), vd = .bool d ∧ vi = .int .i64 (j : Int) ∧ j ≤ L.length ∧ setS (ge1 [p0, q0, r0, s0]) (eq1 [p0, q0, r0, s0]) [p0, q0, r0, s0] false (L.take j) = (o, d) ∧ SetSt (w.heap.size + 3) W0 71 4 o vo W) (fun _ _ vi _ => L.length - (intOf vi).toNat)
  case atStart => exact ⟨0, [], _, rfl, rfl, Nat.zero_le _, rfl, HSI.out⟩
  case round =>
    clear HSI
    obtain ⟨j, o, d, rfl, rfl, hj, hset, hst⟩ := hrel
    have hol : o.length ≤ j + 1 := by
      have h := (setS_len (ge1 [p0, q0, r0, s0]) (eq1 [p0, q0, r0, s0]) [p0, q0, r0, s0] false (L.take j)).1
      rw [hset, List.length_take] at h
      dsimp only at h
      omega
    have HS := Lib.hid hst
    have HSET := Lib.hid hset
    have c0 := HCB.out _ HS.out.lo
    clear hst hset
    by_cases hlt : j < L.length
    · obtain ⟨y, hy⟩ : ∃ y, L[j]? = some y := ⟨L[j], by simp [hlt]⟩
      obtain ⟨b0, off, rfl, hb0, hcs⟩ := HROW.out.at hy
      obtain ⟨p, q, r, s, rfl⟩ := item4 (HK.out _ (List.mem_of_getElem? hy)).1
      have HNX := Lib.hid ((setS_next (ge := (ge1 [p0, q0, r0, s0])) (eq := (eq1 [p0, q0, r0, s0])) (x := [p0, q0, r0, s0]) (done := false) hy).trans (congrArg (fun st => setF (ge1 [p0, q0, r0, s0]) (eq1 [p0, q0, r0, s0]) [p0, q0, r0, s0] st [p, q, r, s]) HSET.out))
      have HCS := Lib.hid (fun W (h : Below (w.heap.size + 3) W0 W) => hcs W (HLO.out W h))
      have HLD := Lib.hid (fun W (h : Below (w.heap.size + 3) W0 W) => load_hold W b0 (off + j * 4) p q r s (HCS.out W h))
      clear hcs hy HSET
      have k0 := HCS.out wr HS.out.lo 0 p rfl
      have k1 := HCS.out wr HS.out.lo 1 q rfl
      have k2 := HCS.out wr HS.out.lo 2 r rfl
      have k3 := HCS.out wr HS.out.lo 3 s rfl
      rw [Nat.add_zero] at k0
      have x0 : wr.cell? ⟨w.heap.size + 1, 0, none⟩ = some (.int .i64 p0) := HCX.out wr HS.out.lo 0
      have b1 : o.length + 1 ≤ maxLen := by unfold maxLen; omega
      have b2 : (o.length + 1) * 32 ≤ 140737488355328 := by omega
      have b0 : o.length ≤ 1001 := by omega
      obtain ⟨b3, b4⟩ := room2 32 (by decide) b0
      cases d with
      | true =>
        by_cases he : p = p0
        · have g : (p == p0) = true := by rw [beq_iff_eq]; exact he
          have HN : Hid (setS (ge1 [p0, q0, r0, s0]) (eq1 [p0, q0, r0, s0]) [p0, q0, r0, s0] false (L.take (j + 1)) = (o, true)) := by show _ = _; rw [HNX.out]; simp [setF, eq1, key, he]
          clear he HNX
          go_wp2
          go_quiet (fail)
          have HSq := Lib.hid (HS.out.drewN nq)
          go_wp2
          generalize nq = n1 at *
          go_quiet (fail)
          have S3 := Lib.hid (HS.out.drewN (n1 + nq))
          go_wp2
          go_roundw
          case rel => exact ⟨j + 1, _, _, rfl, by go_num, hlt, HN.out, S3.out⟩
          case measure => simp [intOf]; omega
        · have g : (p == p0) = false := by rw [beq_eq_false_iff_ne]; exact he
          have HN : Hid (setS (ge1 [p0, q0, r0, s0]) (eq1 [p0, q0, r0, s0]) [p0, q0, r0, s0] false (L.take (j + 1)) = (o ++ [[p, q, r, s]], true)) := by show _ = _; rw [HNX.out]; simp [setF, eq1, key, he]
          clear he HNX
          go_wp2
          go_quiet (fail)
          have HSq := Lib.hid (HS.out.drewN nq)
          go_wp2
          generalize nq = n1 at *
          go_quiet (fail)
          have S3 := Lib.hid (HS.out.drewN (n1 + nq))
          go_wp2_with (at_builtin; (refine wpList_append_own _ rfl _ _ 22 rfl (w.heap.size + 3) 71 i0 (.agg #[.int .i64 0, .int .i64 0, .int .i64 0, .int .i64 0]) 4 32 Tryz.underlying22 hi0 hz0 hz1 hz2 rfl (by decide) _ _ _ rfl (S3.out.row.alloc _) ⟨wr.heap.size, 0, none⟩ 1 1 [.int .i64 p, .int .i64 q, .int .i64 r, .int .i64 s] rfl rfl (new_cells _ [.int .i64 p, .int .i64 q, .int .i64 r, .int .i64 s] _) (one_items [p, q, r, s]) b1 b2 (Nat.le_trans S3.out.sz (by simp)) ?_; intro v' S4w hown hgrow _; have S4 := Lib.hid (SetSt.app (x := [p, q, r, s]) S3.out hown hgrow); clear hown hgrow))
          go_roundw
          case rel => exact ⟨j + 1, _, _, rfl, by go_num, hlt, HN.out, S4.out⟩
          case measure => simp [intOf]; omega
      | false =>
        by_cases hg : p0 ≤ p
        · by_cases he : p = p0
          · have g : (p == p0) = true := by rw [beq_iff_eq]; exact he
            have HN : Hid (setS (ge1 [p0, q0, r0, s0]) (eq1 [p0, q0, r0, s0]) [p0, q0, r0, s0] false (L.take (j + 1)) = (o ++ [[p0, q0, r0, s0]], true)) := by show _ = _; rw [HNX.out]; simp [setF, ge1, eq1, key, he]
            clear he HNX
            go_wp2
            go_quiet (fail)
            have HSq := Lib.hid (HS.out.drewN nq)
            go_wp2_with (first | ((with_reducible refine atLoad (ty := 71) (x := .tmp 3) rfl ?_); refine wpList_load_row rfl 71 (.tmp 3) rfl (w.heap.size + 1) rfl 71 #[.int .i64 p0, .int .i64 q0, .int .i64 r0, .int .i64 s0] (0, 0) _ (HX1.out _ HSq.out.lo) Tryz.underlying71 rfl info33 ?_) | (at_builtin; (refine wpList_append_own _ rfl _ _ 22 rfl (w.heap.size + 3) 71 i0 (.agg #[.int .i64 0, .int .i64 0, .int .i64 0, .int .i64 0]) 4 32 Tryz.underlying22 hi0 hz0 hz1 hz2 rfl (by decide) _ _ _ rfl (HSq.out.row.alloc _) ⟨wr.heap.size, 0, none⟩ 1 1 [.int .i64 p0, .int .i64 q0, .int .i64 r0, .int .i64 s0] rfl rfl (new_cells _ [.int .i64 p0, .int .i64 q0, .int .i64 r0, .int .i64 s0] _) (one_items [p0, q0, r0, s0]) b1 b2 (Nat.le_trans HSq.out.sz (by simp)) ?_; intro v' S2w hown hgrow _; have S2 := Lib.hid (SetSt.app (x := [p0, q0, r0, s0]) HSq.out hown hgrow); clear hown hgrow; have kk0 := HCS.out _ S2.out.lo 0 p rfl; have kk1 := HCS.out _ S2.out.lo 1 q rfl; have kk2 := HCS.out _ S2.out.lo 2 r rfl; have kk3 := HCS.out _ S2.out.lo 3 s rfl; rw [Nat.add_zero] at kk0; have cc := HCB.out _ S2.out.lo; have xx : S2w.cell? ⟨w.heap.size + 1, 0, none⟩ = some (.int .i64 p0) := HCX.out _ S2.out.lo 0)))
            generalize nq = n1 at *
            go_quiet (fail)
            have S3 := Lib.hid (S2.out.drewN nq)
            go_wp2
            go_roundw
            case rel => exact ⟨j + 1, _, _, rfl, by go_num, hlt, HN.out, S3.out⟩
            case measure => simp [intOf]; omega
          · have g : (p == p0) = false := by rw [beq_eq_false_iff_ne]; exact he
            have HN : Hid (setS (ge1 [p0, q0, r0, s0]) (eq1 [p0, q0, r0, s0]) [p0, q0, r0, s0] false (L.take (j + 1)) = (o ++ [[p0, q0, r0, s0]] ++ [[p, q, r, s]], true)) := by show _ = _; rw [HNX.out]; simp [setF, ge1, eq1, key, he, hg]
            clear he HNX
            go_wp2
            go_quiet (fail)
            have HSq := Lib.hid (HS.out.drewN nq)
            go_wp2_with (first | ((with_reducible refine atLoad (ty := 71) (x := .tmp 3) rfl ?_); refine wpList_load_row rfl 71 (.tmp 3) rfl (w.heap.size + 1) rfl 71 #[.int .i64 p0, .int .i64 q0, .int .i64 r0, .int .i64 s0] (0, 0) _ (HX1.out _ HSq.out.lo) Tryz.underlying71 rfl info33 ?_) | (at_builtin; (refine wpList_append_own _ rfl _ _ 22 rfl (w.heap.size + 3) 71 i0 (.agg #[.int .i64 0, .int .i64 0, .int .i64 0, .int .i64 0]) 4 32 Tryz.underlying22 hi0 hz0 hz1 hz2 rfl (by decide) _ _ _ rfl (HSq.out.row.alloc _) ⟨wr.heap.size, 0, none⟩ 1 1 [.int .i64 p0, .int .i64 q0, .int .i64 r0, .int .i64 s0] rfl rfl (new_cells _ [.int .i64 p0, .int .i64 q0, .int .i64 r0, .int .i64 s0] _) (one_items [p0, q0, r0, s0]) b1 b2 (Nat.le_trans HSq.out.sz (by simp)) ?_; intro v' S2w hown hgrow _; have S2 := Lib.hid (SetSt.app (x := [p0, q0, r0, s0]) HSq.out hown hgrow); clear hown hgrow; have kk0 := HCS.out _ S2.out.lo 0 p rfl; have kk1 := HCS.out _ S2.out.lo 1 q rfl; have kk2 := HCS.out _ S2.out.lo 2 r rfl; have kk3 := HCS.out _ S2.out.lo 3 s rfl; rw [Nat.add_zero] at kk0; have cc := HCB.out _ S2.out.lo; have xx : S2w.cell? ⟨w.heap.size + 1, 0, none⟩ = some (.int .i64 p0) := HCX.out _ S2.out.lo 0)))
            generalize nq = n1 at *
            go_quiet (fail)
            have S3 := Lib.hid (S2.out.drewN nq)
            have e1 : (o ++ [[p0, q0, r0, s0]]).length = o.length + 1 := by simp
            go_wp2_with (at_builtin; (refine wpList_append_own _ rfl _ _ 22 rfl (w.heap.size + 3) 71 i0 (.agg #[.int .i64 0, .int .i64 0, .int .i64 0, .int .i64 0]) 4 32 Tryz.underlying22 hi0 hz0 hz1 hz2 rfl (by decide) _ _ _ rfl (S3.out.row.alloc _) ⟨S2w.heap.size, 0, none⟩ 1 1 [.int .i64 p, .int .i64 q, .int .i64 r, .int .i64 s] rfl rfl (new_cells _ [.int .i64 p, .int .i64 q, .int .i64 r, .int .i64 s] _) (one_items [p, q, r, s]) (by rw [List.length_append]; exact b3) (by rw [List.length_append]; exact b4) (Nat.le_trans S3.out.sz (by simp)) ?_; intro v' S4w hown hgrow _; have S4 := Lib.hid (SetSt.app (x := [p, q, r, s]) S3.out hown hgrow); clear hown hgrow))
            go_roundw
            case rel => exact ⟨j + 1, _, _, rfl, by go_num, hlt, HN.out, S4.out⟩
            case measure => simp [intOf]; omega
        · have hg2 : p < p0 := by omega
          have g : (p == p0) = false := by rw [beq_eq_false_iff_ne]; omega
          have HN : Hid (setS (ge1 [p0, q0, r0, s0]) (eq1 [p0, q0, r0, s0]) [p0, q0, r0, s0] false (L.take (j + 1)) = (o ++ [[p, q, r, s]], false)) := by show _ = _; rw [HNX.out]; simp [setF, ge1, eq1, key, hg]; omega
          clear HNX
          go_wp2
          go_quiet (fail)
          have HSq := Lib.hid (HS.out.drewN nq)
          go_wp2
          generalize nq = n1 at *
          go_quiet (fail)
          have S3 := Lib.hid (HS.out.drewN (n1 + nq))
          go_wp2_with (at_builtin; (refine wpList_append_own _ rfl _ _ 22 rfl (w.heap.size + 3) 71 i0 (.agg #[.int .i64 0, .int .i64 0, .int .i64 0, .int .i64 0]) 4 32 Tryz.underlying22 hi0 hz0 hz1 hz2 rfl (by decide) _ _ _ rfl (S3.out.row.alloc _) ⟨wr.heap.size, 0, none⟩ 1 1 [.int .i64 p, .int .i64 q, .int .i64 r, .int .i64 s] rfl rfl (new_cells _ [.int .i64 p, .int .i64 q, .int .i64 r, .int .i64 s] _) (one_items [p, q, r, s]) b1 b2 (Nat.le_trans S3.out.sz (by simp)) ?_; intro v' S4w hown hgrow _; have S4 := Lib.hid (SetSt.app (x := [p, q, r, s]) S3.out hown hgrow); clear hown hgrow))
          go_roundw
          case rel => exact ⟨j + 1, _, _, rfl, by go_num, hlt, HN.out, S4.out⟩
          case measure => simp [intOf]; omega
    · have hjl : L.length ≤ j := by omega
      have hse : setS (ge1 [p0, q0, r0, s0]) (eq1 [p0, q0, r0, s0]) [p0, q0, r0, s0] false L = (o, d) := by have := HSET.out; rwa [List.take_of_length_le hjl] at this
      cases d with
      | true =>
        have HO := Lib.hid (show setL (ge1 [p0, q0, r0, s0]) (eq1 [p0, q0, r0, s0]) [p0, q0, r0, s0] false L = o by unfold setL; rw [hse]; rfl)
        have HKO := Lib.hid (show ∀ x ∈ o, x.length = 4 from fun x hx => by have h2 := (setS_len (ge1 [p0, q0, r0, s0]) (eq1 [p0, q0, r0, s0]) [p0, q0, r0, s0] false L).2 x (by rw [hse]; exact hx); rcases h2 with rfl | h2; rfl; exact (HK.out x h2).1)
        clear hse HSET hjl
        obtain ⟨av, cv, hv⟩ := own_formK HS.out.row
        subst hv
        have hbx : wr.heap[w.heap.size]? = some (.cells (cellsB v b) 27 (0, 0)) := HBX.out _ HS.out.lo
        have hfz := free_of_blkN hbx 0
        have hcc := HCB.out _ HS.out.lo
        have H27 := Lib.hid (show (wr.setCell ⟨w.heap.size, 0, none⟩ (.slice av o.length cv)).heap[w.heap.size]? = some (.cells #[.slice av o.length cv, .slice v.s b.ss.length v.cs, .slice v.o b.os.length v.co, .slice v.r b.rs.length v.cr, .int .i64 b.co] 27 (0, 0)) from set_blkN hbx 0 _)
        have H2 := Lib.hid (show (wr.setCell ⟨w.heap.size, 0, none⟩ (.slice av o.length cv)).heap[w.heap.size + 1 + 1]? = some (.cells #[.slice none 0 0, .slice none 0 0, .slice none 0 0, .slice none 0 0, .int .i64 0] 27 (0, 0)) from (Below.heap_setCell _ _ _ _ (by dsimp only; omega)).trans (HX2.out _ HS.out.lo))
        have HLW := Lib.hid (below_row1 ((HLO.out _ HS.out.lo).setCell (p := ⟨w.heap.size, 0, none⟩) (Nat.le_refl _) (.slice av o.length cv)) (show w.heap.size ≤ w.heap.size + 1 + 1 by omega) (ks := #[.slice av o.length cv, .slice v.s b.ss.length v.cs, .slice v.o b.os.length v.co, .slice v.r b.rs.length v.cr, .int .i64 b.co]))
        have HRW := Lib.hid (rows_own (by decide) HKO.out (own_low HS.out.row (fun i hi => (setRow_ne #[.slice av o.length cv, .slice v.s b.ss.length v.cs, .slice v.o b.os.length v.co, .slice v.r b.rs.length v.cr, .int .i64 b.co] (show i ≠ w.heap.size + 1 + 1 by omega)).trans (Below.heap_setCell wr ⟨w.heap.size, 0, none⟩ (.slice av o.length cv) i (by dsimp only; omega)))))
        clear hbx
        clear HBX HROW HK HCX
        go_wp2_with (first | ((with_reducible refine atLoad (ty := 27) (x := .tmp 2) rfl ?_); refine wpList_load_row rfl 27 (.tmp 2) rfl w.heap.size rfl 27 #[.slice av o.length cv, .slice v.s b.ss.length v.cs, .slice v.o b.os.length v.co, .slice v.r b.rs.length v.cr, .int .i64 b.co] (0, 0) _ H27.out Tryz.underlying27 rfl info27 ?_) | ((with_reducible refine atStore (ty := 27) (x := .tmp 4) (y := .tmp 57) rfl ?_); refine wpList_store_row rfl 27 (.tmp 4) (.tmp 57) rfl (w.heap.size + 1 + 1) #[.slice av o.length cv, .slice v.s b.ss.length v.cs, .slice v.o b.os.length v.co, .slice v.r b.rs.length v.cr, .int .i64 b.co] rfl rfl 27 #[.slice none 0 0, .slice none 0 0, .slice none 0 0, .slice none 0 0, .int .i64 0] H2.out info27 rfl (by simp [Value.oneCell']) ?_))
        refine ret_cell rfl rfl rfl (setRow_heap _ _ _ _ _ _ H2.out) Tryz.underlying27 rfl info27 ?_
        rw [← HPO.out, HRES.out, HO.out]
        obtain ⟨a', c', hv', hri⟩ := HRW.out
        have e1 : av = a' ∧ cv = c' := by simpa using hv'
        obtain ⟨rfl, rfl⟩ := e1
        have hbw := HBI.out.below HLW.out
        exact ⟨⟨{ v with h := av, ch := cv }, by unfold cellsB; simp, ⟨hri, hbw.ss, hbw.os, hbw.rs⟩⟩, HLW.out⟩
      | false =>
        have HO := Lib.hid (show setL (ge1 [p0, q0, r0, s0]) (eq1 [p0, q0, r0, s0]) [p0, q0, r0, s0] false L = o ++ [[p0, q0, r0, s0]] by unfold setL; rw [hse]; rfl)
        have HKO := Lib.hid (show ∀ x ∈ o ++ [[p0, q0, r0, s0]], x.length = 4 from fun x hx => by rcases List.mem_append.1 hx with hx | hx; have h2 := (setS_len (ge1 [p0, q0, r0, s0]) (eq1 [p0, q0, r0, s0]) [p0, q0, r0, s0] false L).2 x (by rw [hse]; exact hx); rcases h2 with rfl | h2; rfl; exact (HK.out x h2).1; rw [List.mem_singleton.1 hx]; rfl)
        clear hse HSET hjl
        have b1 : o.length + 1 ≤ maxLen := by unfold maxLen; omega
        have b2 : (o.length + 1) * 32 ≤ 140737488355328 := by omega
        go_wp2_with (first | ((with_reducible refine atLoad (ty := 27) (x := .tmp 2) rfl ?_); refine wpList_load_row rfl 27 (.tmp 2) rfl w.heap.size rfl 27 #[.slice av (o.length + 1) cv, .slice v.s b.ss.length v.cs, .slice v.o b.os.length v.co, .slice v.r b.rs.length v.cr, .int .i64 b.co] (0, 0) _ H27.out Tryz.underlying27 rfl info27 ?_) | ((with_reducible refine atStore (ty := 27) (x := .tmp 4) (y := .tmp 57) rfl ?_); refine wpList_store_row rfl 27 (.tmp 4) (.tmp 57) rfl (w.heap.size + 1 + 1) #[.slice av (o.length + 1) cv, .slice v.s b.ss.length v.cs, .slice v.o b.os.length v.co, .slice v.r b.rs.length v.cr, .int .i64 b.co] rfl rfl 27 #[.slice none 0 0, .slice none 0 0, .slice none 0 0, .slice none 0 0, .int .i64 0] H2.out info27 rfl (by simp [Value.oneCell']) ?_) | ((with_reducible refine atLoad (ty := 71) (x := .tmp 3) rfl ?_); refine wpList_load_row rfl 71 (.tmp 3) rfl (w.heap.size + 1) rfl 71 #[.int .i64 p0, .int .i64 q0, .int .i64 r0, .int .i64 s0] (0, 0) _ (HX1.out _ HS.out.lo) Tryz.underlying71 rfl info33 ?_) | (at_builtin; (refine wpList_append_own _ rfl _ _ 22 rfl (w.heap.size + 3) 71 i0 (.agg #[.int .i64 0, .int .i64 0, .int .i64 0, .int .i64 0]) 4 32 Tryz.underlying22 hi0 hz0 hz1 hz2 rfl (by decide) _ _ _ rfl (HS.out.row.alloc _) ⟨wr.heap.size, 0, none⟩ 1 1 [.int .i64 p0, .int .i64 q0, .int .i64 r0, .int .i64 s0] rfl rfl (new_cells _ [.int .i64 p0, .int .i64 q0, .int .i64 r0, .int .i64 s0] _) (one_items [p0, q0, r0, s0]) b1 b2 (Nat.le_trans HS.out.sz (by simp)) ?_; intro v' S2w hown hgrow _; have S2 := Lib.hid (SetSt.app (x := [p0, q0, r0, s0]) HS.out hown hgrow); obtain ⟨av, cv, hv⟩ := own_formK hown; subst hv; clear hown hgrow; have hbx : S2w.heap[w.heap.size]? = some (.cells (cellsB v b) 27 (0, 0)) := HBX.out _ S2.out.lo; have hfz := free_of_blkN hbx 0; have hcc := HCB.out _ S2.out.lo; have H27 := Lib.hid (show (S2w.setCell ⟨w.heap.size, 0, none⟩ (.slice av (o.length + 1) cv)).heap[w.heap.size]? = some (.cells #[.slice av (o.length + 1) cv, .slice v.s b.ss.length v.cs, .slice v.o b.os.length v.co, .slice v.r b.rs.length v.cr, .int .i64 b.co] 27 (0, 0)) from set_blkN hbx 0 _); have H2 := Lib.hid (show (S2w.setCell ⟨w.heap.size, 0, none⟩ (.slice av (o.length + 1) cv)).heap[w.heap.size + 1 + 1]? = some (.cells #[.slice none 0 0, .slice none 0 0, .slice none 0 0, .slice none 0 0, .int .i64 0] 27 (0, 0)) from (Below.heap_setCell _ _ _ _ (by dsimp only; omega)).trans (HX2.out _ S2.out.lo)); have HLW := Lib.hid (below_row1 ((HLO.out _ S2.out.lo).setCell (p := ⟨w.heap.size, 0, none⟩) (Nat.le_refl _) (.slice av (o.length + 1) cv)) (show w.heap.size ≤ w.heap.size + 1 + 1 by omega) (ks := #[.slice av (o.length + 1) cv, .slice v.s b.ss.length v.cs, .slice v.o b.os.length v.co, .slice v.r b.rs.length v.cr, .int .i64 b.co])); have HRW := Lib.hid (rows_own (by decide) HKO.out (own_low S2.out.row (fun i hi => (setRow_ne #[.slice av (o.length + 1) cv, .slice v.s b.ss.length v.cs, .slice v.o b.os.length v.co, .slice v.r b.rs.length v.cr, .int .i64 b.co] (show i ≠ w.heap.size + 1 + 1 by omega)).trans (Below.heap_setCell S2w ⟨w.heap.size, 0, none⟩ (.slice av (o.length + 1) cv) i (by dsimp only; omega))))); clear hbx)))
        refine ret_cell rfl rfl rfl (setRow_heap _ _ _ _ _ _ H2.out) Tryz.underlying27 rfl info27 ?_
        rw [← HPO.out, HRES.out, HO.out]
        obtain ⟨a', c', hv', hri⟩ := HRW.out
        have e1 : av = a' ∧ cv = c' := by simpa using hv'
        obtain ⟨rfl, rfl⟩ := e1
        have hbw := HBI.out.below HLW.out
        exact ⟨⟨{ v with h := av, ch := cv }, by unfold cellsB; simp, ⟨hri, hbw.ss, hbw.os, hbw.rs⟩⟩, HLW.out⟩
end Go.Proofs.YtellifcjamedkaaGreat
namespace Go.Proofs.YtellifcjamedkaaGreat
open Go.RowKit Base Base2
set_option maxRecDepth 100000 in
set_option maxHeartbeats 8000000 in
theorem setrate30 (v : Slots) (b : BookT) (p0 q0 : Int) (w : World) (hb : BookIn w v b) (hk : ItemsOk 2 1000 b.rs) :
    Calls Tryz.prog 64 #[.agg (cellsB v b), .agg #[.int .i64 p0, .int .i64 q0]] w (BookAns w (setRateT b [p0, q0])) := by
  obtain ⟨i0, hi0, hz0, hz1, hz2⟩ := info_parts infoR
  obtain ⟨W0, hW0⟩ : ∃ W, ((w.alloc (.cells (cellsB v b) 27)).alloc (.cells #[.int .i64 p0, .int .i64 q0] 50)).alloc (.cells #[.slice none 0 0, .slice none 0 0, .slice none 0 0, .slice none 0 0, .int .i64 0] 27) = W := ⟨_, rfl⟩
  have hlo : Below w.heap.size w W0 := by rw [← hW0]; exact (((Below.refl _ w).alloc (Nat.le_refl _) _).alloc (by simp) _).alloc (by simp; omega) _
  have hsz : w.heap.size + 3 ≤ W0.heap.size := by rw [← hW0]; simp
  have h3 := three_alloc (w := w) (A := .cells (cellsB v b) 27) (B := .cells #[.int .i64 p0, .int .i64 q0] 50) (C := .cells #[.slice none 0 0, .slice none 0 0, .slice none 0 0, .slice none 0 0, .int .i64 0] 27)
  rw [hW0] at h3
  obtain ⟨hx0, hx1, hx2, _⟩ := h3
  have HBX := Lib.hid (show ∀ W, Below (w.heap.size + 3) W0 W → BoxB W w.heap.size v b from fun W h => (h.block _ (by omega)).trans hx0)
  have HX1 := Lib.hid (show ∀ W, Below (w.heap.size + 3) W0 W → W.heap[w.heap.size + 1]? = some (.cells #[.int .i64 p0, .int .i64 q0] 50 (0, 0)) from fun W h => (h.block _ (by omega)).trans hx1)
  have HX2 := Lib.hid (show ∀ W, Below (w.heap.size + 3) W0 W → W.heap[w.heap.size + 1 + 1]? = some (.cells #[.slice none 0 0, .slice none 0 0, .slice none 0 0, .slice none 0 0, .int .i64 0] 27 (0, 0)) from fun W h => (h.block _ (by omega)).trans hx2)
  have HLO := Lib.hid (show ∀ W, Below (w.heap.size + 3) W0 W → Below w.heap.size w W from fun W h => hlo.trans (h.mono (by omega)))
  have HSI := Lib.hid (show SetSt (w.heap.size + 3) W0 50 2 [] (.slice none 0 0) W0 from SetSt.nil hsz)
  have HBI := Lib.hid hb
  have HROW := Lib.hid hb.rs
  have hkl := hk.1
  have HK := Lib.hid hk.2
  have HCB := Lib.hid (show ∀ W, Below (w.heap.size + 3) W0 W → W.cell? ⟨w.heap.size, 3, none⟩ = some (.slice v.r b.rs.length v.cr) from fun W h => (HBX.out W h).cells.2.2.2.1)
  have HCX := Lib.hid (show ∀ W, Below (w.heap.size + 3) W0 W → ∀ i, W.cell? ⟨w.heap.size + 1, i, none⟩ = #[.int .i64 p0, .int .i64 q0][i]? from fun W h i => cell_of_row _ _ _ _ 50 (0, 0) (HX1.out W h))
  have HRES := Lib.hid (show setRateT b [p0, q0] = { b with rs := setL (ge1 [p0, q0]) (eq1 [p0, q0]) [p0, q0] false b.rs } from rfl)
  clear hx0 hx1 hx2 hlo hsz hb hk
  obtain ⟨L, hL⟩ : ∃ L, b.rs = L := ⟨_, rfl⟩
  obtain ⟨a, ha⟩ : ∃ a, v.r = a := ⟨_, rfl⟩
  obtain ⟨c, hc⟩ : ∃ c, v.cr = c := ⟨_, rfl⟩
  rw [hL] at HROW hkl HK HCB HRES
  rw [ha] at HROW HCB
  rw [hc] at HCB
  obtain ⟨POST, hP⟩ : ∃ P, BookAns w (setRateT b [p0, q0]) = P := ⟨_, rfl⟩
  rw [hP]
  have HPO := Lib.hid hP
  have hcz : (cellsB v b).size = 5 := rfl
  obtain ⟨CB, hCB⟩ : ∃ C, cellsB v b = C := ⟨_, rfl⟩
  rw [hCB] at hW0 hcz ⊢
  have HCC := Lib.hid hCB
  have HZ5 := Lib.hid hcz
  clear hL ha hc hP hCB hcz
  have c1 := HCX.out W0 (Below.refl _ _)
  go_enter Tryz.func64, Tryz.ntmps64
  go_wp2
  clear hW0 c1
  go_loopw [5, 6, 7] (fun vo vd vi W => ∃ (j : Nat) (o : List Item) (d : Bool), vd = .bool d ∧ vi = .int .i64 (j : Int) ∧ j ≤ L.length ∧ setS (ge1 [p0, q0]) (eq1 [p0, q0]) [p0, q0] false (L.take j) = (o, d) ∧ SetSt (w.heap.size + 3) W0 50 2 o vo W) (fun _ _ vi _ => L.length - (intOf vi).toNat)
  case atStart => exact ⟨0, [], _, rfl, rfl, Nat.zero_le _, rfl, HSI.out⟩
  case round =>
    clear HSI
    obtain ⟨j, o, d, rfl, rfl, hj, hset, hst⟩ := hrel
    have hol : o.length ≤ j + 1 := by
      have h := (setS_len (ge1 [p0, q0]) (eq1 [p0, q0]) [p0, q0] false (L.take j)).1
      rw [hset, List.length_take] at h
      dsimp only at h
      omega
    have HS := Lib.hid hst
    have HSET := Lib.hid hset
    have c0 := HCB.out _ HS.out.lo
    clear hst hset
    by_cases hlt : j < L.length
    · obtain ⟨y, hy⟩ : ∃ y, L[j]? = some y := ⟨L[j], by simp [hlt]⟩
      obtain ⟨b0, off, rfl, hb0, hcs⟩ := HROW.out.at hy
      obtain ⟨p, q, rfl⟩ := item2 (HK.out _ (List.mem_of_getElem? hy)).1
      have HNX := Lib.hid ((setS_next (ge := (ge1 [p0, q0])) (eq := (eq1 [p0, q0])) (x := [p0, q0]) (done := false) hy).trans (congrArg (fun st => setF (ge1 [p0, q0]) (eq1 [p0, q0]) [p0, q0] st [p, q]) HSET.out))
      have HCS := Lib.hid (fun W (h : Below (w.heap.size + 3) W0 W) => hcs W (HLO.out W h))
      have HLD := Lib.hid (fun W (h : Below (w.heap.size + 3) W0 W) => load_rate W b0 (off + j * 2) p q (HCS.out W h))
      clear hcs hy HSET
      have k0 := HCS.out wr HS.out.lo 0 p rfl
      have k1 := HCS.out wr HS.out.lo 1 q rfl
      rw [Nat.add_zero] at k0
      have x0 : wr.cell? ⟨w.heap.size + 1, 0, none⟩ = some (.int .i64 p0) := HCX.out wr HS.out.lo 0
      have b1 : o.length + 1 ≤ maxLen := by unfold maxLen; omega
      have b2 : (o.length + 1) * 16 ≤ 140737488355328 := by omega
      have b0 : o.length ≤ 1001 := by omega
      obtain ⟨b3, b4⟩ := room2 16 (by decide) b0
      cases d with
      | true =>
        by_cases he : p = p0
        · have g : (p == p0) = true := by rw [beq_iff_eq]; exact he
          have HN : Hid (setS (ge1 [p0, q0]) (eq1 [p0, q0]) [p0, q0] false (L.take (j + 1)) = (o, true)) := by show _ = _; rw [HNX.out]; simp [setF, eq1, key, he]
          clear he HNX
          go_wp2
          go_quiet (fail)
          have HSq := Lib.hid (HS.out.drewN nq)
          go_wp2
          generalize nq = n1 at *
          go_quiet (fail)
          have S3 := Lib.hid (HS.out.drewN (n1 + nq))
          go_wp2
          go_roundw
          case rel => exact ⟨j + 1, _, _, rfl, by go_num, hlt, HN.out, S3.out⟩
          case measure => simp [intOf]; omega
        · have g : (p == p0) = false := by rw [beq_eq_false_iff_ne]; exact he
          have HN : Hid (setS (ge1 [p0, q0]) (eq1 [p0, q0]) [p0, q0] false (L.take (j + 1)) = (o ++ [[p, q]], true)) := by show _ = _; rw [HNX.out]; simp [setF, eq1, key, he]
          clear he HNX
          go_wp2
          go_quiet (fail)
          have HSq := Lib.hid (HS.out.drewN nq)
          go_wp2
          generalize nq = n1 at *
          go_quiet (fail)
          have S3 := Lib.hid (HS.out.drewN (n1 + nq))
          go_wp2_with (at_builtin; (refine wpList_append_own _ rfl _ _ 25 rfl (w.heap.size + 3) 50 i0 (.agg #[.int .i64 0, .int .i64 0]) 2 16 Tryz.underlying25 hi0 hz0 hz1 hz2 rfl (by decide) _ _ _ rfl (S3.out.row.alloc _) ⟨wr.heap.size, 0, none⟩ 1 1 [.int .i64 p, .int .i64 q] rfl rfl (new_cells _ [.int .i64 p, .int .i64 q] _) (one_items [p, q]) b1 b2 (Nat.le_trans S3.out.sz (by simp)) ?_; intro v' S4w hown hgrow _; have S4 := Lib.hid (SetSt.app (x := [p, q]) S3.out hown hgrow); clear hown hgrow))
          go_roundw
          case rel => exact ⟨j + 1, _, _, rfl, by go_num, hlt, HN.out, S4.out⟩
          case measure => simp [intOf]; omega
      | false =>
        by_cases hg : p0 ≤ p
        · by_cases he : p = p0
          · have g : (p == p0) = true := by rw [beq_iff_eq]; exact he
            have HN : Hid (setS (ge1 [p0, q0]) (eq1 [p0, q0]) [p0, q0] false (L.take (j + 1)) = (o ++ [[p0, q0]], true)) := by show _ = _; rw [HNX.out]; simp [setF, ge1, eq1, key, he]
            clear he HNX
            go_wp2
            go_quiet (fail)
            have HSq := Lib.hid (HS.out.drewN nq)
            go_wp2_with (first | ((with_reducible refine atLoad (ty := 50) (x := .tmp 3) rfl ?_); refine wpList_load_row rfl 50 (.tmp 3) rfl (w.heap.size + 1) rfl 50 #[.int .i64 p0, .int .i64 q0] (0, 0) _ (HX1.out _ HSq.out.lo) Tryz.underlying50 rfl info47 ?_) | (at_builtin; (refine wpList_append_own _ rfl _ _ 25 rfl (w.heap.size + 3) 50 i0 (.agg #[.int .i64 0, .int .i64 0]) 2 16 Tryz.underlying25 hi0 hz0 hz1 hz2 rfl (by decide) _ _ _ rfl (HSq.out.row.alloc _) ⟨wr.heap.size, 0, none⟩ 1 1 [.int .i64 p0, .int .i64 q0] rfl rfl (new_cells _ [.int .i64 p0, .int .i64 q0] _) (one_items [p0, q0]) b1 b2 (Nat.le_trans HSq.out.sz (by simp)) ?_; intro v' S2w hown hgrow _; have S2 := Lib.hid (SetSt.app (x := [p0, q0]) HSq.out hown hgrow); clear hown hgrow; have kk0 := HCS.out _ S2.out.lo 0 p rfl; have kk1 := HCS.out _ S2.out.lo 1 q rfl; rw [Nat.add_zero] at kk0; have cc := HCB.out _ S2.out.lo; have xx : S2w.cell? ⟨w.heap.size + 1, 0, none⟩ = some (.int .i64 p0) := HCX.out _ S2.out.lo 0)))
            generalize nq = n1 at *
            go_quiet (fail)
            have S3 := Lib.hid (S2.out.drewN nq)
            go_wp2
            go_roundw
            case rel => exact ⟨j + 1, _, _, rfl, by go_num, hlt, HN.out, S3.out⟩
            case measure => simp [intOf]; omega
          · have g : (p == p0) = false := by rw [beq_eq_false_iff_ne]; exact he
            have HN : Hid (setS (ge1 [p0, q0]) (eq1 [p0, q0]) [p0, q0] false (L.take (j + 1)) = (o ++ [[p0, q0]] ++ [[p, q]], true)) := by show _ = _; rw [HNX.out]; simp [setF, ge1, eq1, key, he, hg]
            clear he HNX
            go_wp2
            go_quiet (fail)
            have HSq := Lib.hid (HS.out.drewN nq)
            go_wp2_with (first | ((with_reducible refine atLoad (ty := 50) (x := .tmp 3) rfl ?_); refine wpList_load_row rfl 50 (.tmp 3) rfl (w.heap.size + 1) rfl 50 #[.int .i64 p0, .int .i64 q0] (0, 0) _ (HX1.out _ HSq.out.lo) Tryz.underlying50 rfl info47 ?_) | (at_builtin; (refine wpList_append_own _ rfl _ _ 25 rfl (w.heap.size + 3) 50 i0 (.agg #[.int .i64 0, .int .i64 0]) 2 16 Tryz.underlying25 hi0 hz0 hz1 hz2 rfl (by decide) _ _ _ rfl (HSq.out.row.alloc _) ⟨wr.heap.size, 0, none⟩ 1 1 [.int .i64 p0, .int .i64 q0] rfl rfl (new_cells _ [.int .i64 p0, .int .i64 q0] _) (one_items [p0, q0]) b1 b2 (Nat.le_trans HSq.out.sz (by simp)) ?_; intro v' S2w hown hgrow _; have S2 := Lib.hid (SetSt.app (x := [p0, q0]) HSq.out hown hgrow); clear hown hgrow; have kk0 := HCS.out _ S2.out.lo 0 p rfl; have kk1 := HCS.out _ S2.out.lo 1 q rfl; rw [Nat.add_zero] at kk0; have cc := HCB.out _ S2.out.lo; have xx : S2w.cell? ⟨w.heap.size + 1, 0, none⟩ = some (.int .i64 p0) := HCX.out _ S2.out.lo 0)))
            generalize nq = n1 at *
            go_quiet (fail)
            have S3 := Lib.hid (S2.out.drewN nq)
            have e1 : (o ++ [[p0, q0]]).length = o.length + 1 := by simp
            go_wp2_with (at_builtin; (refine wpList_append_own _ rfl _ _ 25 rfl (w.heap.size + 3) 50 i0 (.agg #[.int .i64 0, .int .i64 0]) 2 16 Tryz.underlying25 hi0 hz0 hz1 hz2 rfl (by decide) _ _ _ rfl (S3.out.row.alloc _) ⟨S2w.heap.size, 0, none⟩ 1 1 [.int .i64 p, .int .i64 q] rfl rfl (new_cells _ [.int .i64 p, .int .i64 q] _) (one_items [p, q]) (by rw [List.length_append]; exact b3) (by rw [List.length_append]; exact b4) (Nat.le_trans S3.out.sz (by simp)) ?_; intro v' S4w hown hgrow _; have S4 := Lib.hid (SetSt.app (x := [p, q]) S3.out hown hgrow); clear hown hgrow))
            go_roundw
            case rel => exact ⟨j + 1, _, _, rfl, by go_num, hlt, HN.out, S4.out⟩
            case measure => simp [intOf]; omega
        · have hg2 : p < p0 := by omega
          have g : (p == p0) = false := by rw [beq_eq_false_iff_ne]; omega
          have HN : Hid (setS (ge1 [p0, q0]) (eq1 [p0, q0]) [p0, q0] false (L.take (j + 1)) = (o ++ [[p, q]], false)) := by show _ = _; rw [HNX.out]; simp [setF, ge1, eq1, key, hg]; omega
          clear HNX
          go_wp2
          go_quiet (fail)
          have HSq := Lib.hid (HS.out.drewN nq)
          go_wp2
          generalize nq = n1 at *
          go_quiet (fail)
          have S3 := Lib.hid (HS.out.drewN (n1 + nq))
          go_wp2_with (at_builtin; (refine wpList_append_own _ rfl _ _ 25 rfl (w.heap.size + 3) 50 i0 (.agg #[.int .i64 0, .int .i64 0]) 2 16 Tryz.underlying25 hi0 hz0 hz1 hz2 rfl (by decide) _ _ _ rfl (S3.out.row.alloc _) ⟨wr.heap.size, 0, none⟩ 1 1 [.int .i64 p, .int .i64 q] rfl rfl (new_cells _ [.int .i64 p, .int .i64 q] _) (one_items [p, q]) b1 b2 (Nat.le_trans S3.out.sz (by simp)) ?_; intro v' S4w hown hgrow _; have S4 := Lib.hid (SetSt.app (x := [p, q]) S3.out hown hgrow); clear hown hgrow))
          go_roundw
          case rel => exact ⟨j + 1, _, _, rfl, by go_num, hlt, HN.out, S4.out⟩
          case measure => simp [intOf]; omega
    · have hjl : L.length ≤ j := by omega
      have hse : setS (ge1 [p0, q0]) (eq1 [p0, q0]) [p0, q0] false L = (o, d) := by have := HSET.out; rwa [List.take_of_length_le hjl] at this
      cases d with
      | true =>
        have HO := Lib.hid (show setL (ge1 [p0, q0]) (eq1 [p0, q0]) [p0, q0] false L = o by unfold setL; rw [hse]; rfl)
        have HKO := Lib.hid (show ∀ x ∈ o, x.length = 2 from fun x hx => by have h2 := (setS_len (ge1 [p0, q0]) (eq1 [p0, q0]) [p0, q0] false L).2 x (by rw [hse]; exact hx); rcases h2 with rfl | h2; rfl; exact (HK.out x h2).1)
        clear hse HSET hjl
        obtain ⟨av, cv, hv⟩ := own_formK HS.out.row
        subst hv
        have hbx : wr.heap[w.heap.size]? = some (.cells (cellsB v b) 27 (0, 0)) := HBX.out _ HS.out.lo
        have hfz := free_of_blkN hbx 3
        have hcc := HCB.out _ HS.out.lo
        have H27 := Lib.hid (show (wr.setCell ⟨w.heap.size, 3, none⟩ (.slice av o.length cv)).heap[w.heap.size]? = some (.cells #[.slice v.h b.hs.length v.ch, .slice v.s b.ss.length v.cs, .slice v.o b.os.length v.co, .slice av o.length cv, .int .i64 b.co] 27 (0, 0)) from set_blkN hbx 3 _)
        have H2 := Lib.hid (show (wr.setCell ⟨w.heap.size, 3, none⟩ (.slice av o.length cv)).heap[w.heap.size + 1 + 1]? = some (.cells #[.slice none 0 0, .slice none 0 0, .slice none 0 0, .slice none 0 0, .int .i64 0] 27 (0, 0)) from (Below.heap_setCell _ _ _ _ (by dsimp only; omega)).trans (HX2.out _ HS.out.lo))
        have HLW := Lib.hid (below_row1 ((HLO.out _ HS.out.lo).setCell (p := ⟨w.heap.size, 3, none⟩) (Nat.le_refl _) (.slice av o.length cv)) (show w.heap.size ≤ w.heap.size + 1 + 1 by omega) (ks := #[.slice v.h b.hs.length v.ch, .slice v.s b.ss.length v.cs, .slice v.o b.os.length v.co, .slice av o.length cv, .int .i64 b.co]))
        have HRW := Lib.hid (rows_own (by decide) HKO.out (own_low HS.out.row (fun i hi => (setRow_ne #[.slice v.h b.hs.length v.ch, .slice v.s b.ss.length v.cs, .slice v.o b.os.length v.co, .slice av o.length cv, .int .i64 b.co] (show i ≠ w.heap.size + 1 + 1 by omega)).trans (Below.heap_setCell wr ⟨w.heap.size, 3, none⟩ (.slice av o.length cv) i (by dsimp only; omega)))))
        clear hbx
        clear HBX HROW HK HCX
        go_wp2_with (first | ((with_reducible refine atLoad (ty := 27) (x := .tmp 2) rfl ?_); refine wpList_load_row rfl 27 (.tmp 2) rfl w.heap.size rfl 27 #[.slice v.h b.hs.length v.ch, .slice v.s b.ss.length v.cs, .slice v.o b.os.length v.co, .slice av o.length cv, .int .i64 b.co] (0, 0) _ H27.out Tryz.underlying27 rfl info27 ?_) | ((with_reducible refine atStore (ty := 27) (x := .tmp 4) (y := .tmp 57) rfl ?_); refine wpList_store_row rfl 27 (.tmp 4) (.tmp 57) rfl (w.heap.size + 1 + 1) #[.slice v.h b.hs.length v.ch, .slice v.s b.ss.length v.cs, .slice v.o b.os.length v.co, .slice av o.length cv, .int .i64 b.co] rfl rfl 27 #[.slice none 0 0, .slice none 0 0, .slice none 0 0, .slice none 0 0, .int .i64 0] H2.out info27 rfl (by simp [Value.oneCell']) ?_))
        refine ret_cell rfl rfl rfl (setRow_heap _ _ _ _ _ _ H2.out) Tryz.underlying27 rfl info27 ?_
        rw [← HPO.out, HRES.out, HO.out]
        obtain ⟨a', c', hv', hri⟩ := HRW.out
        have e1 : av = a' ∧ cv = c' := by simpa using hv'
        obtain ⟨rfl, rfl⟩ := e1
        have hbw := HBI.out.below HLW.out
        exact ⟨⟨{ v with r := av, cr := cv }, by unfold cellsB; simp, ⟨hbw.hs, hbw.ss, hbw.os, hri⟩⟩, HLW.out⟩
      | false =>
        have HO := Lib.hid (show setL (ge1 [p0, q0]) (eq1 [p0, q0]) [p0, q0] false L = o ++ [[p0, q0]] by unfold setL; rw [hse]; rfl)
        have HKO := Lib.hid (show ∀ x ∈ o ++ [[p0, q0]], x.length = 2 from fun x hx => by rcases List.mem_append.1 hx with hx | hx; have h2 := (setS_len (ge1 [p0, q0]) (eq1 [p0, q0]) [p0, q0] false L).2 x (by rw [hse]; exact hx); rcases h2 with rfl | h2; rfl; exact (HK.out x h2).1; rw [List.mem_singleton.1 hx]; rfl)
        clear hse HSET hjl
        have b1 : o.length + 1 ≤ maxLen := by unfold maxLen; omega
        have b2 : (o.length + 1) * 16 ≤ 140737488355328 := by omega
        go_wp2_with (first | ((with_reducible refine atLoad (ty := 27) (x := .tmp 2) rfl ?_); refine wpList_load_row rfl 27 (.tmp 2) rfl w.heap.size rfl 27 #[.slice v.h b.hs.length v.ch, .slice v.s b.ss.length v.cs, .slice v.o b.os.length v.co, .slice av (o.length + 1) cv, .int .i64 b.co] (0, 0) _ H27.out Tryz.underlying27 rfl info27 ?_) | ((with_reducible refine atStore (ty := 27) (x := .tmp 4) (y := .tmp 57) rfl ?_); refine wpList_store_row rfl 27 (.tmp 4) (.tmp 57) rfl (w.heap.size + 1 + 1) #[.slice v.h b.hs.length v.ch, .slice v.s b.ss.length v.cs, .slice v.o b.os.length v.co, .slice av (o.length + 1) cv, .int .i64 b.co] rfl rfl 27 #[.slice none 0 0, .slice none 0 0, .slice none 0 0, .slice none 0 0, .int .i64 0] H2.out info27 rfl (by simp [Value.oneCell']) ?_) | ((with_reducible refine atLoad (ty := 50) (x := .tmp 3) rfl ?_); refine wpList_load_row rfl 50 (.tmp 3) rfl (w.heap.size + 1) rfl 50 #[.int .i64 p0, .int .i64 q0] (0, 0) _ (HX1.out _ HS.out.lo) Tryz.underlying50 rfl info47 ?_) | (at_builtin; (refine wpList_append_own _ rfl _ _ 25 rfl (w.heap.size + 3) 50 i0 (.agg #[.int .i64 0, .int .i64 0]) 2 16 Tryz.underlying25 hi0 hz0 hz1 hz2 rfl (by decide) _ _ _ rfl (HS.out.row.alloc _) ⟨wr.heap.size, 0, none⟩ 1 1 [.int .i64 p0, .int .i64 q0] rfl rfl (new_cells _ [.int .i64 p0, .int .i64 q0] _) (one_items [p0, q0]) b1 b2 (Nat.le_trans HS.out.sz (by simp)) ?_; intro v' S2w hown hgrow _; have S2 := Lib.hid (SetSt.app (x := [p0, q0]) HS.out hown hgrow); obtain ⟨av, cv, hv⟩ := own_formK hown; subst hv; clear hown hgrow; have hbx : S2w.heap[w.heap.size]? = some (.cells (cellsB v b) 27 (0, 0)) := HBX.out _ S2.out.lo; have hfz := free_of_blkN hbx 3; have hcc := HCB.out _ S2.out.lo; have H27 := Lib.hid (show (S2w.setCell ⟨w.heap.size, 3, none⟩ (.slice av (o.length + 1) cv)).heap[w.heap.size]? = some (.cells #[.slice v.h b.hs.length v.ch, .slice v.s b.ss.length v.cs, .slice v.o b.os.length v.co, .slice av (o.length + 1) cv, .int .i64 b.co] 27 (0, 0)) from set_blkN hbx 3 _); have H2 := Lib.hid (show (S2w.setCell ⟨w.heap.size, 3, none⟩ (.slice av (o.length + 1) cv)).heap[w.heap.size + 1 + 1]? = some (.cells #[.slice none 0 0, .slice none 0 0, .slice none 0 0, .slice none 0 0, .int .i64 0] 27 (0, 0)) from (Below.heap_setCell _ _ _ _ (by dsimp only; omega)).trans (HX2.out _ S2.out.lo)); have HLW := Lib.hid (below_row1 ((HLO.out _ S2.out.lo).setCell (p := ⟨w.heap.size, 3, none⟩) (Nat.le_refl _) (.slice av (o.length + 1) cv)) (show w.heap.size ≤ w.heap.size + 1 + 1 by omega) (ks := #[.slice v.h b.hs.length v.ch, .slice v.s b.ss.length v.cs, .slice v.o b.os.length v.co, .slice av (o.length + 1) cv, .int .i64 b.co])); have HRW := Lib.hid (rows_own (by decide) HKO.out (own_low S2.out.row (fun i hi => (setRow_ne #[.slice v.h b.hs.length v.ch, .slice v.s b.ss.length v.cs, .slice v.o b.os.length v.co, .slice av (o.length + 1) cv, .int .i64 b.co] (show i ≠ w.heap.size + 1 + 1 by omega)).trans (Below.heap_setCell S2w ⟨w.heap.size, 3, none⟩ (.slice av (o.length + 1) cv) i (by dsimp only; omega))))); clear hbx)))
        refine ret_cell rfl rfl rfl (setRow_heap _ _ _ _ _ _ H2.out) Tryz.underlying27 rfl info27 ?_
        rw [← HPO.out, HRES.out, HO.out]
        obtain ⟨a', c', hv', hri⟩ := HRW.out
        have e1 : av = a' ∧ cv = c' := by simpa using hv'
        obtain ⟨rfl, rfl⟩ := e1
        have hbw := HBI.out.below HLW.out
        exact ⟨⟨{ v with r := av, cr := cv }, by unfold cellsB; simp, ⟨hbw.hs, hbw.ss, hbw.os, hri⟩⟩, HLW.out⟩
end Go.Proofs.YtellifcjamedkaaGreat
