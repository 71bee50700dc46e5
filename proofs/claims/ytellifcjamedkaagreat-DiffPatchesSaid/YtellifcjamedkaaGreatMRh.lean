/- The document's sets in a book: their contracts. The document's sets in a book: their contracts. -/
import Derived.Test.YtellifcjamedkaaGreatMRg
namespace Go.Proofs.YtellifcjamedkaaGreat
open Go.RowKit Base Base2
set_option maxRecDepth 100000 in
set_option maxHeartbeats 8000000 in
theorem setopen29 (v : Slots) (b : BookT) (p0 q0 r0 s0 t0 z0 : Int) (w : World) (hb : BookIn w v b) (hk : ItemsOk 6 1000 b.os) :
    Calls Tryz.prog 63 #[.agg (cellsB v b), .agg #[.int .i64 p0, .int .i64 q0, .int .i64 r0, .int .i64 s0, .int .i64 t0, .int .i64 z0]] w (BookAns w (setOpenT b [p0, q0, r0, s0, t0, z0])) := by
  obtain ⟨i0, hi0, hz0, hz1, hz2⟩ := info_parts infoO
  obtain ⟨W0, hW0⟩ : ∃ W, ((w.alloc (.cells (cellsB v b) 27)).alloc (.cells #[.int .i64 p0, .int .i64 q0, .int .i64 r0, .int .i64 s0, .int .i64 t0, .int .i64 z0] 76)).alloc (.cells #[.slice none 0 0, .slice none 0 0, .slice none 0 0, .slice none 0 0, .int .i64 0] 27) = W := ⟨_, rfl⟩
  have hlo : Below w.heap.size w W0 := by rw [← hW0]; exact (((Below.refl _ w).alloc (Nat.le_refl _) _).alloc (by simp) _).alloc (by simp; omega) _
  have hsz : w.heap.size + 3 ≤ W0.heap.size := by rw [← hW0]; simp
  have h3 := three_alloc (w := w) (A := .cells (cellsB v b) 27) (B := .cells #[.int .i64 p0, .int .i64 q0, .int .i64 r0, .int .i64 s0, .int .i64 t0, .int .i64 z0] 76) (C := .cells #[.slice none 0 0, .slice none 0 0, .slice none 0 0, .slice none 0 0, .int .i64 0] 27)
  rw [hW0] at h3
  obtain ⟨hx0, hx1, hx2, _⟩ := h3
  have HBX := Lib.hid (show ∀ W, Below (w.heap.size + 3) W0 W → BoxB W w.heap.size v b from fun W h => (h.block _ (by omega)).trans hx0)
  have HX1 := Lib.hid (show ∀ W, Below (w.heap.size + 3) W0 W → W.heap[w.heap.size + 1]? = some (.cells #[.int .i64 p0, .int .i64 q0, .int .i64 r0, .int .i64 s0, .int .i64 t0, .int .i64 z0] 76 (0, 0)) from fun W h => (h.block _ (by omega)).trans hx1)
  have HX2 := Lib.hid (show ∀ W, Below (w.heap.size + 3) W0 W → W.heap[w.heap.size + 1 + 1]? = some (.cells #[.slice none 0 0, .slice none 0 0, .slice none 0 0, .slice none 0 0, .int .i64 0] 27 (0, 0)) from fun W h => (h.block _ (by omega)).trans hx2)
  have HLO := Lib.hid (show ∀ W, Below (w.heap.size + 3) W0 W → Below w.heap.size w W from fun W h => hlo.trans (h.mono (by omega)))
  have HSI := Lib.hid (show SetSt (w.heap.size + 3) W0 76 6 [] (.slice none 0 0) W0 from SetSt.nil hsz)
  have HBI := Lib.hid hb
  have HROW := Lib.hid hb.os
  have hkl := hk.1
  have HK := Lib.hid hk.2
  have HCB := Lib.hid (show ∀ W, Below (w.heap.size + 3) W0 W → W.cell? ⟨w.heap.size, 2, none⟩ = some (.slice v.o b.os.length v.co) from fun W h => (HBX.out W h).cells.2.2.1)
  have HCX := Lib.hid (show ∀ W, Below (w.heap.size + 3) W0 W → ∀ i, W.cell? ⟨w.heap.size + 1, i, none⟩ = #[.int .i64 p0, .int .i64 q0, .int .i64 r0, .int .i64 s0, .int .i64 t0, .int .i64 z0][i]? from fun W h i => cell_of_row _ _ _ _ 76 (0, 0) (HX1.out W h))
  have HRES := Lib.hid (show setOpenT b [p0, q0, r0, s0, t0, z0] = { b with os := setL (ge1 [p0, q0, r0, s0, t0, z0]) (eq1 [p0, q0, r0, s0, t0, z0]) [p0, q0, r0, s0, t0, z0] (t0 == 0) b.os } from rfl)
  clear hx0 hx1 hx2 hlo hsz hb hk
  obtain ⟨L, hL⟩ : ∃ L, b.os = L := ⟨_, rfl⟩
  obtain ⟨a, ha⟩ : ∃ a, v.o = a := ⟨_, rfl⟩
  obtain ⟨c, hc⟩ : ∃ c, v.co = c := ⟨_, rfl⟩
  rw [hL] at HROW hkl HK HCB HRES
  rw [ha] at HROW HCB
  rw [hc] at HCB
  obtain ⟨POST, hP⟩ : ∃ P, BookAns w (setOpenT b [p0, q0, r0, s0, t0, z0]) = P := ⟨_, rfl⟩
  rw [hP]
  have HPO := Lib.hid hP
  have hcz : (cellsB v b).size = 5 := rfl
  obtain ⟨CB, hCB⟩ : ∃ C, cellsB v b = C := ⟨_, rfl⟩
  rw [hCB] at hW0 hcz ⊢
  have HCC := Lib.hid hCB
  have HZ5 := Lib.hid hcz
  clear hL ha hc hP hCB hcz
  have c1 := HCX.out W0 (Below.refl _ _)
  go_enter Tryz.func63, Tryz.ntmps63
  go_wp2
  clear hW0 c1
  go_loopw [5, 6, 7] (fun vo vd vi W => ∃ (j : Nat) (o : List Item) (d : Bool), vd = .bool d ∧ vi = .int .i64 (j : Int) ∧ j ≤ L.length ∧ setS (ge1 [p0, q0, r0, s0, t0, z0]) (eq1 [p0, q0, r0, s0, t0, z0]) [p0, q0, r0, s0, t0, z0] (t0 == 0) (L.take j) = (o, d) ∧ SetSt (w.heap.size + 3) W0 76 6 o vo W) (fun _ _ vi _ => L.length - (intOf vi).toNat)
  case atStart => exact ⟨0, [], _, rfl, rfl, Nat.zero_le _, rfl, HSI.out⟩
  case round =>
    clear HSI
    obtain ⟨j, o, d, rfl, rfl, hj, hset, hst⟩ := hrel
    have hol : o.length ≤ j + 1 := by
      have h := (setS_len (ge1 [p0, q0, r0, s0, t0, z0]) (eq1 [p0, q0, r0, s0, t0, z0]) [p0, q0, r0, s0, t0, z0] (t0 == 0) (L.take j)).1
      rw [hset, List.length_take] at h
      dsimp only at h
      omega
    have HS := Lib.hid hst
    have HSET := Lib.hid hset
    have c0 := HCB.out _ HS.out.lo
    clear hst hset
    by_cases hlt : j < L.length
    · obtain ⟨y, hy⟩ : ∃ y, L[j]? = some y := ⟨L[j], by simp [hlt]⟩
      obtain ⟨b0, off, rfl, hb0, hcs⟩ := HROW.out.at hy
      obtain ⟨p, q, r, s, t, z, rfl⟩ := item6 (HK.out _ (List.mem_of_getElem? hy)).1
      have HNX := Lib.hid ((setS_next (ge := (ge1 [p0, q0, r0, s0, t0, z0])) (eq := (eq1 [p0, q0, r0, s0, t0, z0])) (x := [p0, q0, r0, s0, t0, z0]) (done := (t0 == 0)) hy).trans (congrArg (fun st => setF (ge1 [p0, q0, r0, s0, t0, z0]) (eq1 [p0, q0, r0, s0, t0, z0]) [p0, q0, r0, s0, t0, z0] st [p, q, r, s, t, z]) HSET.out))
      have HCS := Lib.hid (fun W (h : Below (w.heap.size + 3) W0 W) => hcs W (HLO.out W h))
      have HLD := Lib.hid (fun W (h : Below (w.heap.size + 3) W0 W) => load_open W b0 (off + j * 6) p q r s t z (HCS.out W h))
      clear hcs hy HSET
      have k0 := HCS.out wr HS.out.lo 0 p rfl
      have k1 := HCS.out wr HS.out.lo 1 q rfl
      have k2 := HCS.out wr HS.out.lo 2 r rfl
      have k3 := HCS.out wr HS.out.lo 3 s rfl
      have k4 := HCS.out wr HS.out.lo 4 t rfl
      have k5 := HCS.out wr HS.out.lo 5 z rfl
      rw [Nat.add_zero] at k0
      have x0 : wr.cell? ⟨w.heap.size + 1, 0, none⟩ = some (.int .i64 p0) := HCX.out wr HS.out.lo 0
      have b1 : o.length + 1 ≤ maxLen := by unfold maxLen; omega
      have b2 : (o.length + 1) * 48 ≤ 140737488355328 := by omega
      have b0 : o.length ≤ 1001 := by omega
      obtain ⟨b3, b4⟩ := room2 48 (by decide) b0
      cases d with
      | true =>
        by_cases he : p = p0
        · have g : (p == p0) = true := by rw [beq_iff_eq]; exact he
          have HN : Hid (setS (ge1 [p0, q0, r0, s0, t0, z0]) (eq1 [p0, q0, r0, s0, t0, z0]) [p0, q0, r0, s0, t0, z0] (t0 == 0) (L.take (j + 1)) = (o, true)) := by show _ = _; rw [HNX.out]; simp [setF, eq1, key, he]
          clear he HNX
          go_wp2
          go_quiet (fail)
          have HSq := Lib.hid (HS.out.drewN nq)
          go_wp2
          generalize nq = n1 at *
          go_quiet (fail)
          have S3 := Lib.hid (HS.out.drewN (n1 + nq))
          go_wp2
          go_roundw
          case rel => exact ⟨j + 1, _, _, rfl, by go_num, hlt, HN.out, S3.out⟩
          case measure => simp [intOf]; omega
        · have g : (p == p0) = false := by rw [beq_eq_false_iff_ne]; exact he
          have HN : Hid (setS (ge1 [p0, q0, r0, s0, t0, z0]) (eq1 [p0, q0, r0, s0, t0, z0]) [p0, q0, r0, s0, t0, z0] (t0 == 0) (L.take (j + 1)) = (o ++ [[p, q, r, s, t, z]], true)) := by show _ = _; rw [HNX.out]; simp [setF, eq1, key, he]
          clear he HNX
          go_wp2
          go_quiet (fail)
          have HSq := Lib.hid (HS.out.drewN nq)
          go_wp2
          generalize nq = n1 at *
          go_quiet (fail)
          have S3 := Lib.hid (HS.out.drewN (n1 + nq))
          go_wp2_with (at_builtin; (refine wpList_append_own _ rfl _ _ 24 rfl (w.heap.size + 3) 76 i0 (.agg #[.int .i64 0, .int .i64 0, .int .i64 0, .int .i64 0, .int .i64 0, .int .i64 0]) 6 48 Tryz.underlying24 hi0 hz0 hz1 hz2 rfl (by decide) _ _ _ rfl (S3.out.row.alloc _) ⟨wr.heap.size, 0, none⟩ 1 1 [.int .i64 p, .int .i64 q, .int .i64 r, .int .i64 s, .int .i64 t, .int .i64 z] rfl rfl (new_cells _ [.int .i64 p, .int .i64 q, .int .i64 r, .int .i64 s, .int .i64 t, .int .i64 z] _) (one_items [p, q, r, s, t, z]) b1 b2 (Nat.le_trans S3.out.sz (by simp)) ?_; intro v' S4w hown hgrow _; have S4 := Lib.hid (SetSt.app (x := [p, q, r, s, t, z]) S3.out hown hgrow); clear hown hgrow))
          go_roundw
          case rel => exact ⟨j + 1, _, _, rfl, by go_num, hlt, HN.out, S4.out⟩
          case measure => simp [intOf]; omega
      | false =>
        by_cases hg : p0 ≤ p
        · by_cases he : p = p0
          · have g : (p == p0) = true := by rw [beq_iff_eq]; exact he
            have HN : Hid (setS (ge1 [p0, q0, r0, s0, t0, z0]) (eq1 [p0, q0, r0, s0, t0, z0]) [p0, q0, r0, s0, t0, z0] (t0 == 0) (L.take (j + 1)) = (o ++ [[p0, q0, r0, s0, t0, z0]], true)) := by show _ = _; rw [HNX.out]; simp [setF, ge1, eq1, key, he]
            clear he HNX
            go_wp2
            go_quiet (fail)
            have HSq := Lib.hid (HS.out.drewN nq)
            go_wp2_with (first | ((with_reducible refine atLoad (ty := 76) (x := .tmp 3) rfl ?_); refine wpList_load_row rfl 76 (.tmp 3) rfl (w.heap.size + 1) rfl 76 #[.int .i64 p0, .int .i64 q0, .int .i64 r0, .int .i64 s0, .int .i64 t0, .int .i64 z0] (0, 0) _ (HX1.out _ HSq.out.lo) Tryz.underlying76 rfl info37 ?_) | (at_builtin; (refine wpList_append_own _ rfl _ _ 24 rfl (w.heap.size + 3) 76 i0 (.agg #[.int .i64 0, .int .i64 0, .int .i64 0, .int .i64 0, .int .i64 0, .int .i64 0]) 6 48 Tryz.underlying24 hi0 hz0 hz1 hz2 rfl (by decide) _ _ _ rfl (HSq.out.row.alloc _) ⟨wr.heap.size, 0, none⟩ 1 1 [.int .i64 p0, .int .i64 q0, .int .i64 r0, .int .i64 s0, .int .i64 t0, .int .i64 z0] rfl rfl (new_cells _ [.int .i64 p0, .int .i64 q0, .int .i64 r0, .int .i64 s0, .int .i64 t0, .int .i64 z0] _) (one_items [p0, q0, r0, s0, t0, z0]) b1 b2 (Nat.le_trans HSq.out.sz (by simp)) ?_; intro v' S2w hown hgrow _; have S2 := Lib.hid (SetSt.app (x := [p0, q0, r0, s0, t0, z0]) HSq.out hown hgrow); clear hown hgrow; have kk0 := HCS.out _ S2.out.lo 0 p rfl; have kk1 := HCS.out _ S2.out.lo 1 q rfl; have kk2 := HCS.out _ S2.out.lo 2 r rfl; have kk3 := HCS.out _ S2.out.lo 3 s rfl; have kk4 := HCS.out _ S2.out.lo 4 t rfl; have kk5 := HCS.out _ S2.out.lo 5 z rfl; rw [Nat.add_zero] at kk0; have cc := HCB.out _ S2.out.lo; have xx : S2w.cell? ⟨w.heap.size + 1, 0, none⟩ = some (.int .i64 p0) := HCX.out _ S2.out.lo 0)))
            generalize nq = n1 at *
            go_quiet (fail)
            have S3 := Lib.hid (S2.out.drewN nq)
            go_wp2
            go_roundw
            case rel => exact ⟨j + 1, _, _, rfl, by go_num, hlt, HN.out, S3.out⟩
            case measure => simp [intOf]; omega
          · have g : (p == p0) = false := by rw [beq_eq_false_iff_ne]; exact he
            have HN : Hid (setS (ge1 [p0, q0, r0, s0, t0, z0]) (eq1 [p0, q0, r0, s0, t0, z0]) [p0, q0, r0, s0, t0, z0] (t0 == 0) (L.take (j + 1)) = (o ++ [[p0, q0, r0, s0, t0, z0]] ++ [[p, q, r, s, t, z]], true)) := by show _ = _; rw [HNX.out]; simp [setF, ge1, eq1, key, he, hg]
            clear he HNX
            go_wp2
            go_quiet (fail)
            have HSq := Lib.hid (HS.out.drewN nq)
            go_wp2_with (first | ((with_reducible refine atLoad (ty := 76) (x := .tmp 3) rfl ?_); refine wpList_load_row rfl 76 (.tmp 3) rfl (w.heap.size + 1) rfl 76 #[.int .i64 p0, .int .i64 q0, .int .i64 r0, .int .i64 s0, .int .i64 t0, .int .i64 z0] (0, 0) _ (HX1.out _ HSq.out.lo) Tryz.underlying76 rfl info37 ?_) | (at_builtin; (refine wpList_append_own _ rfl _ _ 24 rfl (w.heap.size + 3) 76 i0 (.agg #[.int .i64 0, .int .i64 0, .int .i64 0, .int .i64 0, .int .i64 0, .int .i64 0]) 6 48 Tryz.underlying24 hi0 hz0 hz1 hz2 rfl (by decide) _ _ _ rfl (HSq.out.row.alloc _) ⟨wr.heap.size, 0, none⟩ 1 1 [.int .i64 p0, .int .i64 q0, .int .i64 r0, .int .i64 s0, .int .i64 t0, .int .i64 z0] rfl rfl (new_cells _ [.int .i64 p0, .int .i64 q0, .int .i64 r0, .int .i64 s0, .int .i64 t0, .int .i64 z0] _) (one_items [p0, q0, r0, s0, t0, z0]) b1 b2 (Nat.le_trans HSq.out.sz (by simp)) ?_; intro v' S2w hown hgrow _; have S2 := Lib.hid (SetSt.app (x := [p0, q0, r0, s0, t0, z0]) HSq.out hown hgrow); clear hown hgrow; have kk0 := HCS.out _ S2.out.lo 0 p rfl; have kk1 := HCS.out _ S2.out.lo 1 q rfl; have kk2 := HCS.out _ S2.out.lo 2 r rfl; have kk3 := HCS.out _ S2.out.lo 3 s rfl; have kk4 := HCS.out _ S2.out.lo 4 t rfl; have kk5 := HCS.out _ S2.out.lo 5 z rfl; rw [Nat.add_zero] at kk0; have cc := HCB.out _ S2.out.lo; have xx : S2w.cell? ⟨w.heap.size + 1, 0, none⟩ = some (.int .i64 p0) := HCX.out _ S2.out.lo 0)))
            generalize nq = n1 at *
            go_quiet (fail)
            have S3 := Lib.hid (S2.out.drewN nq)
            have e1 : (o ++ [[p0, q0, r0, s0, t0, z0]]).length = o.length + 1 := by simp
            go_wp2_with (at_builtin; (refine wpList_append_own _ rfl _ _ 24 rfl (w.heap.size + 3) 76 i0 (.agg #[.int .i64 0, .int .i64 0, .int .i64 0, .int .i64 0, .int .i64 0, .int .i64 0]) 6 48 Tryz.underlying24 hi0 hz0 hz1 hz2 rfl (by decide) _ _ _ rfl (S3.out.row.alloc _) ⟨S2w.heap.size, 0, none⟩ 1 1 [.int .i64 p, .int .i64 q, .int .i64 r, .int .i64 s, .int .i64 t, .int .i64 z] rfl rfl (new_cells _ [.int .i64 p, .int .i64 q, .int .i64 r, .int .i64 s, .int .i64 t, .int .i64 z] _) (one_items [p, q, r, s, t, z]) (by rw [List.length_append]; exact b3) (by rw [List.length_append]; exact b4) (Nat.le_trans S3.out.sz (by simp)) ?_; intro v' S4w hown hgrow _; have S4 := Lib.hid (SetSt.app (x := [p, q, r, s, t, z]) S3.out hown hgrow); clear hown hgrow))
            go_roundw
            case rel => exact ⟨j + 1, _, _, rfl, by go_num, hlt, HN.out, S4.out⟩
            case measure => simp [intOf]; omega
        · have hg2 : p < p0 := by omega
          have g : (p == p0) = false := by rw [beq_eq_false_iff_ne]; omega
          have HN : Hid (setS (ge1 [p0, q0, r0, s0, t0, z0]) (eq1 [p0, q0, r0, s0, t0, z0]) [p0, q0, r0, s0, t0, z0] (t0 == 0) (L.take (j + 1)) = (o ++ [[p, q, r, s, t, z]], false)) := by show _ = _; rw [HNX.out]; simp [setF, ge1, eq1, key, hg]; omega
          clear HNX
          go_wp2
          go_quiet (fail)
          have HSq := Lib.hid (HS.out.drewN nq)
          go_wp2
          generalize nq = n1 at *
          go_quiet (fail)
          have S3 := Lib.hid (HS.out.drewN (n1 + nq))
          go_wp2_with (at_builtin; (refine wpList_append_own _ rfl _ _ 24 rfl (w.heap.size + 3) 76 i0 (.agg #[.int .i64 0, .int .i64 0, .int .i64 0, .int .i64 0, .int .i64 0, .int .i64 0]) 6 48 Tryz.underlying24 hi0 hz0 hz1 hz2 rfl (by decide) _ _ _ rfl (S3.out.row.alloc _) ⟨wr.heap.size, 0, none⟩ 1 1 [.int .i64 p, .int .i64 q, .int .i64 r, .int .i64 s, .int .i64 t, .int .i64 z] rfl rfl (new_cells _ [.int .i64 p, .int .i64 q, .int .i64 r, .int .i64 s, .int .i64 t, .int .i64 z] _) (one_items [p, q, r, s, t, z]) b1 b2 (Nat.le_trans S3.out.sz (by simp)) ?_; intro v' S4w hown hgrow _; have S4 := Lib.hid (SetSt.app (x := [p, q, r, s, t, z]) S3.out hown hgrow); clear hown hgrow))
          go_roundw
          case rel => exact ⟨j + 1, _, _, rfl, by go_num, hlt, HN.out, S4.out⟩
          case measure => simp [intOf]; omega
    · have hjl : L.length ≤ j := by omega
      have hse : setS (ge1 [p0, q0, r0, s0, t0, z0]) (eq1 [p0, q0, r0, s0, t0, z0]) [p0, q0, r0, s0, t0, z0] (t0 == 0) L = (o, d) := by have := HSET.out; rwa [List.take_of_length_le hjl] at this
      cases d with
      | true =>
        have HO := Lib.hid (show setL (ge1 [p0, q0, r0, s0, t0, z0]) (eq1 [p0, q0, r0, s0, t0, z0]) [p0, q0, r0, s0, t0, z0] (t0 == 0) L = o by unfold setL; rw [hse]; rfl)
        have HKO := Lib.hid (show ∀ x ∈ o, x.length = 6 from fun x hx => by have h2 := (setS_len (ge1 [p0, q0, r0, s0, t0, z0]) (eq1 [p0, q0, r0, s0, t0, z0]) [p0, q0, r0, s0, t0, z0] (t0 == 0) L).2 x (by rw [hse]; exact hx); rcases h2 with rfl | h2; rfl; exact (HK.out x h2).1)
        clear hse HSET hjl
        obtain ⟨av, cv, hv⟩ := own_formK HS.out.row
        subst hv
        have hbx : wr.heap[w.heap.size]? = some (.cells (cellsB v b) 27 (0, 0)) := HBX.out _ HS.out.lo
        have hfz := free_of_blkN hbx 2
        have hcc := HCB.out _ HS.out.lo
        have H27 := Lib.hid (show (wr.setCell ⟨w.heap.size, 2, none⟩ (.slice av o.length cv)).heap[w.heap.size]? = some (.cells #[.slice v.h b.hs.length v.ch, .slice v.s b.ss.length v.cs, .slice av o.length cv, .slice v.r b.rs.length v.cr, .int .i64 b.co] 27 (0, 0)) from set_blkN hbx 2 _)
        have H2 := Lib.hid (show (wr.setCell ⟨w.heap.size, 2, none⟩ (.slice av o.length cv)).heap[w.heap.size + 1 + 1]? = some (.cells #[.slice none 0 0, .slice none 0 0, .slice none 0 0, .slice none 0 0, .int .i64 0] 27 (0, 0)) from (Below.heap_setCell _ _ _ _ (by dsimp only; omega)).trans (HX2.out _ HS.out.lo))
        have HLW := Lib.hid (below_row1 ((HLO.out _ HS.out.lo).setCell (p := ⟨w.heap.size, 2, none⟩) (Nat.le_refl _) (.slice av o.length cv)) (show w.heap.size ≤ w.heap.size + 1 + 1 by omega) (ks := #[.slice v.h b.hs.length v.ch, .slice v.s b.ss.length v.cs, .slice av o.length cv, .slice v.r b.rs.length v.cr, .int .i64 b.co]))
        have HRW := Lib.hid (rows_own (by decide) HKO.out (own_low HS.out.row (fun i hi => (setRow_ne #[.slice v.h b.hs.length v.ch, .slice v.s b.ss.length v.cs, .slice av o.length cv, .slice v.r b.rs.length v.cr, .int .i64 b.co] (show i ≠ w.heap.size + 1 + 1 by omega)).trans (Below.heap_setCell wr ⟨w.heap.size, 2, none⟩ (.slice av o.length cv) i (by dsimp only; omega)))))
        clear hbx
        clear HBX HROW HK HCX
        go_wp2_with (first | ((with_reducible refine atLoad (ty := 27) (x := .tmp 2) rfl ?_); refine wpList_load_row rfl 27 (.tmp 2) rfl w.heap.size rfl 27 #[.slice v.h b.hs.length v.ch, .slice v.s b.ss.length v.cs, .slice av o.length cv, .slice v.r b.rs.length v.cr, .int .i64 b.co] (0, 0) _ H27.out Tryz.underlying27 rfl info27 ?_) | ((with_reducible refine atStore (ty := 27) (x := .tmp 4) (y := .tmp 60) rfl ?_); refine wpList_store_row rfl 27 (.tmp 4) (.tmp 60) rfl (w.heap.size + 1 + 1) #[.slice v.h b.hs.length v.ch, .slice v.s b.ss.length v.cs, .slice av o.length cv, .slice v.r b.rs.length v.cr, .int .i64 b.co] rfl rfl 27 #[.slice none 0 0, .slice none 0 0, .slice none 0 0, .slice none 0 0, .int .i64 0] H2.out info27 rfl (by simp [Value.oneCell']) ?_))
        refine ret_cell rfl rfl rfl (setRow_heap _ _ _ _ _ _ H2.out) Tryz.underlying27 rfl info27 ?_
        rw [← HPO.out, HRES.out, HO.out]
        obtain ⟨a', c', hv', hri⟩ := HRW.out
        have e1 : av = a' ∧ cv = c' := by simpa using hv'
        obtain ⟨rfl, rfl⟩ := e1
        have hbw := HBI.out.below HLW.out
        exact ⟨⟨{ v with o := av, co := cv }, by unfold cellsB; simp, ⟨hbw.hs, hbw.ss, hri, hbw.rs⟩⟩, HLW.out⟩
      | false =>
        have HO := Lib.hid (show setL (ge1 [p0, q0, r0, s0, t0, z0]) (eq1 [p0, q0, r0, s0, t0, z0]) [p0, q0, r0, s0, t0, z0] (t0 == 0) L = o ++ [[p0, q0, r0, s0, t0, z0]] by unfold setL; rw [hse]; rfl)
        have HKO := Lib.hid (show ∀ x ∈ o ++ [[p0, q0, r0, s0, t0, z0]], x.length = 6 from fun x hx => by rcases List.mem_append.1 hx with hx | hx; have h2 := (setS_len (ge1 [p0, q0, r0, s0, t0, z0]) (eq1 [p0, q0, r0, s0, t0, z0]) [p0, q0, r0, s0, t0, z0] (t0 == 0) L).2 x (by rw [hse]; exact hx); rcases h2 with rfl | h2; rfl; exact (HK.out x h2).1; rw [List.mem_singleton.1 hx]; rfl)
        clear hse HSET hjl
        have b1 : o.length + 1 ≤ maxLen := by unfold maxLen; omega
        have b2 : (o.length + 1) * 48 ≤ 140737488355328 := by omega
        go_wp2_with (first | ((with_reducible refine atLoad (ty := 27) (x := .tmp 2) rfl ?_); refine wpList_load_row rfl 27 (.tmp 2) rfl w.heap.size rfl 27 #[.slice v.h b.hs.length v.ch, .slice v.s b.ss.length v.cs, .slice av (o.length + 1) cv, .slice v.r b.rs.length v.cr, .int .i64 b.co] (0, 0) _ H27.out Tryz.underlying27 rfl info27 ?_) | ((with_reducible refine atStore (ty := 27) (x := .tmp 4) (y := .tmp 60) rfl ?_); refine wpList_store_row rfl 27 (.tmp 4) (.tmp 60) rfl (w.heap.size + 1 + 1) #[.slice v.h b.hs.length v.ch, .slice v.s b.ss.length v.cs, .slice av (o.length + 1) cv, .slice v.r b.rs.length v.cr, .int .i64 b.co] rfl rfl 27 #[.slice none 0 0, .slice none 0 0, .slice none 0 0, .slice none 0 0, .int .i64 0] H2.out info27 rfl (by simp [Value.oneCell']) ?_) | ((with_reducible refine atLoad (ty := 76) (x := .tmp 3) rfl ?_); refine wpList_load_row rfl 76 (.tmp 3) rfl (w.heap.size + 1) rfl 76 #[.int .i64 p0, .int .i64 q0, .int .i64 r0, .int .i64 s0, .int .i64 t0, .int .i64 z0] (0, 0) _ (HX1.out _ HS.out.lo) Tryz.underlying76 rfl info37 ?_) | (at_builtin; (refine wpList_append_own _ rfl _ _ 24 rfl (w.heap.size + 3) 76 i0 (.agg #[.int .i64 0, .int .i64 0, .int .i64 0, .int .i64 0, .int .i64 0, .int .i64 0]) 6 48 Tryz.underlying24 hi0 hz0 hz1 hz2 rfl (by decide) _ _ _ rfl (HS.out.row.alloc _) ⟨wr.heap.size, 0, none⟩ 1 1 [.int .i64 p0, .int .i64 q0, .int .i64 r0, .int .i64 s0, .int .i64 t0, .int .i64 z0] rfl rfl (new_cells _ [.int .i64 p0, .int .i64 q0, .int .i64 r0, .int .i64 s0, .int .i64 t0, .int .i64 z0] _) (one_items [p0, q0, r0, s0, t0, z0]) b1 b2 (Nat.le_trans HS.out.sz (by simp)) ?_; intro v' S2w hown hgrow _; have S2 := Lib.hid (SetSt.app (x := [p0, q0, r0, s0, t0, z0]) HS.out hown hgrow); obtain ⟨av, cv, hv⟩ := own_formK hown; subst hv; clear hown hgrow; have hbx : S2w.heap[w.heap.size]? = some (.cells (cellsB v b) 27 (0, 0)) := HBX.out _ S2.out.lo; have hfz := free_of_blkN hbx 2; have hcc := HCB.out _ S2.out.lo; have H27 := Lib.hid (show (S2w.setCell ⟨w.heap.size, 2, none⟩ (.slice av (o.length + 1) cv)).heap[w.heap.size]? = some (.cells #[.slice v.h b.hs.length v.ch, .slice v.s b.ss.length v.cs, .slice av (o.length + 1) cv, .slice v.r b.rs.length v.cr, .int .i64 b.co] 27 (0, 0)) from set_blkN hbx 2 _); have H2 := Lib.hid (show (S2w.setCell ⟨w.heap.size, 2, none⟩ (.slice av (o.length + 1) cv)).heap[w.heap.size + 1 + 1]? = some (.cells #[.slice none 0 0, .slice none 0 0, .slice none 0 0, .slice none 0 0, .int .i64 0] 27 (0, 0)) from (Below.heap_setCell _ _ _ _ (by dsimp only; omega)).trans (HX2.out _ S2.out.lo)); have HLW := Lib.hid (below_row1 ((HLO.out _ S2.out.lo).setCell (p := ⟨w.heap.size, 2, none⟩) (Nat.le_refl _) (.slice av (o.length + 1) cv)) (show w.heap.size ≤ w.heap.size + 1 + 1 by omega) (ks := #[.slice v.h b.hs.length v.ch, .slice v.s b.ss.length v.cs, .slice av (o.length + 1) cv, .slice v.r b.rs.length v.cr, .int .i64 b.co])); have HRW := Lib.hid (rows_own (by decide) HKO.out (own_low S2.out.row (fun i hi => (setRow_ne #[.slice v.h b.hs.length v.ch, .slice v.s b.ss.length v.cs, .slice av (o.length + 1) cv, .slice v.r b.rs.length v.cr, .int .i64 b.co] (show i ≠ w.heap.size + 1 + 1 by omega)).trans (Below.heap_setCell S2w ⟨w.heap.size, 2, none⟩ (.slice av (o.length + 1) cv) i (by dsimp only; omega))))); clear hbx)))
        refine ret_cell rfl rfl rfl (setRow_heap _ _ _ _ _ _ H2.out) Tryz.underlying27 rfl info27 ?_
        rw [← HPO.out, HRES.out, HO.out]
        obtain ⟨a', c', hv', hri⟩ := HRW.out
        have e1 : av = a' ∧ cv = c' := by simpa using hv'
        obtain ⟨rfl, rfl⟩ := e1
        have hbw := HBI.out.below HLW.out
        exact ⟨⟨{ v with o := av, co := cv }, by unfold cellsB; simp, ⟨hbw.hs, hbw.ss, hri, hbw.rs⟩⟩, HLW.out⟩
end Go.Proofs.YtellifcjamedkaaGreat
namespace Go.Proofs.YtellifcjamedkaaGreat
open Go.RowKit Base Base2
set_option maxRecDepth 100000 in
set_option maxHeartbeats 8000000 in
theorem setstake28 (v : Slots) (b : BookT) (p0 q0 r0 : Int) (w : World) (hb : BookIn w v b) (hk : ItemsOk 3 1000 b.ss) :
    Calls Tryz.prog 62 #[.agg (cellsB v b), .agg #[.int .i64 p0, .int .i64 q0, .int .i64 r0]] w (BookAns w (setStakeT b [p0, q0, r0])) := by
  obtain ⟨i0, hi0, hz0, hz1, hz2⟩ := info_parts infoS
  obtain ⟨W0, hW0⟩ : ∃ W, ((w.alloc (.cells (cellsB v b) 27)).alloc (.cells #[.int .i64 p0, .int .i64 q0, .int .i64 r0] 73)).alloc (.cells #[.slice none 0 0, .slice none 0 0, .slice none 0 0, .slice none 0 0, .int .i64 0] 27) = W := ⟨_, rfl⟩
  have hlo : Below w.heap.size w W0 := by rw [← hW0]; exact (((Below.refl _ w).alloc (Nat.le_refl _) _).alloc (by simp) _).alloc (by simp; omega) _
  have hsz : w.heap.size + 3 ≤ W0.heap.size := by rw [← hW0]; simp
  have h3 := three_alloc (w := w) (A := .cells (cellsB v b) 27) (B := .cells #[.int .i64 p0, .int .i64 q0, .int .i64 r0] 73) (C := .cells #[.slice none 0 0, .slice none 0 0, .slice none 0 0, .slice none 0 0, .int .i64 0] 27)
  rw [hW0] at h3
  obtain ⟨hx0, hx1, hx2, _⟩ := h3
  have HBX := Lib.hid (show ∀ W, Below (w.heap.size + 3) W0 W → BoxB W w.heap.size v b from fun W h => (h.block _ (by omega)).trans hx0)
  have HX1 := Lib.hid (show ∀ W, Below (w.heap.size + 3) W0 W → W.heap[w.heap.size + 1]? = some (.cells #[.int .i64 p0, .int .i64 q0, .int .i64 r0] 73 (0, 0)) from fun W h => (h.block _ (by omega)).trans hx1)
  have HX2 := Lib.hid (show ∀ W, Below (w.heap.size + 3) W0 W → W.heap[w.heap.size + 1 + 1]? = some (.cells #[.slice none 0 0, .slice none 0 0, .slice none 0 0, .slice none 0 0, .int .i64 0] 27 (0, 0)) from fun W h => (h.block _ (by omega)).trans hx2)
  have HLO := Lib.hid (show ∀ W, Below (w.heap.size + 3) W0 W → Below w.heap.size w W from fun W h => hlo.trans (h.mono (by omega)))
  have HSI := Lib.hid (show SetSt (w.heap.size + 3) W0 73 3 [] (.slice none 0 0) W0 from SetSt.nil hsz)
  have HBI := Lib.hid hb
  have HROW := Lib.hid hb.ss
  have hkl := hk.1
  have HK := Lib.hid hk.2
  have HCB := Lib.hid (show ∀ W, Below (w.heap.size + 3) W0 W → W.cell? ⟨w.heap.size, 1, none⟩ = some (.slice v.s b.ss.length v.cs) from fun W h => (HBX.out W h).cells.2.1)
  have HCX := Lib.hid (show ∀ W, Below (w.heap.size + 3) W0 W → ∀ i, W.cell? ⟨w.heap.size + 1, i, none⟩ = #[.int .i64 p0, .int .i64 q0, .int .i64 r0][i]? from fun W h i => cell_of_row _ _ _ _ 73 (0, 0) (HX1.out W h))
  have HRES := Lib.hid (show setStakeT b [p0, q0, r0] = { b with ss := setL (ge2 [p0, q0, r0]) (eq2 [p0, q0, r0]) [p0, q0, r0] (r0 == 0) b.ss } from rfl)
  clear hx0 hx1 hx2 hlo hsz hb hk
  obtain ⟨L, hL⟩ : ∃ L, b.ss = L := ⟨_, rfl⟩
  obtain ⟨a, ha⟩ : ∃ a, v.s = a := ⟨_, rfl⟩
  obtain ⟨c, hc⟩ : ∃ c, v.cs = c := ⟨_, rfl⟩
  rw [hL] at HROW hkl HK HCB HRES
  rw [ha] at HROW HCB
  rw [hc] at HCB
  obtain ⟨POST, hP⟩ : ∃ P, BookAns w (setStakeT b [p0, q0, r0]) = P := ⟨_, rfl⟩
  rw [hP]
  have HPO := Lib.hid hP
  have hcz : (cellsB v b).size = 5 := rfl
  obtain ⟨CB, hCB⟩ : ∃ C, cellsB v b = C := ⟨_, rfl⟩
  rw [hCB] at hW0 hcz ⊢
  have HCC := Lib.hid hCB
  have HZ5 := Lib.hid hcz
  clear hL ha hc hP hCB hcz
  have c1 := HCX.out W0 (Below.refl _ _)
  go_enter Tryz.func62, Tryz.ntmps62
  go_wp2
  clear hW0 c1
  go_loopw [5, 6, 7] (fun vo vd vi W => ∃ (j : Nat) (o : List Item) (d : Bool), vd = .bool d ∧ vi = .int .i64 (j : Int) ∧ j ≤ L.length ∧ setS (ge2 [p0, q0, r0]) (eq2 [p0, q0, r0]) [p0, q0, r0] (r0 == 0) (L.take j) = (o, d) ∧ SetSt (w.heap.size + 3) W0 73 3 o vo W) (fun _ _ vi _ => L.length - (intOf vi).toNat)
  case atStart => exact ⟨0, [], _, rfl, rfl, Nat.zero_le _, rfl, HSI.out⟩
  case round =>
    clear HSI
    obtain ⟨j, o, d, rfl, rfl, hj, hset, hst⟩ := hrel
    have hol : o.length ≤ j + 1 := by
      have h := (setS_len (ge2 [p0, q0, r0]) (eq2 [p0, q0, r0]) [p0, q0, r0] (r0 == 0) (L.take j)).1
      rw [hset, List.length_take] at h
      dsimp only at h
      omega
    have HS := Lib.hid hst
    have HSET := Lib.hid hset
    have c0 := HCB.out _ HS.out.lo
    clear hst hset
    by_cases hlt : j < L.length
    · obtain ⟨y, hy⟩ : ∃ y, L[j]? = some y := ⟨L[j], by simp [hlt]⟩
      obtain ⟨b0, off, rfl, hb0, hcs⟩ := HROW.out.at hy
      obtain ⟨p, q, r, rfl⟩ := item3 (HK.out _ (List.mem_of_getElem? hy)).1
      have HNX := Lib.hid ((setS_next (ge := (ge2 [p0, q0, r0])) (eq := (eq2 [p0, q0, r0])) (x := [p0, q0, r0]) (done := (r0 == 0)) hy).trans (congrArg (fun st => setF (ge2 [p0, q0, r0]) (eq2 [p0, q0, r0]) [p0, q0, r0] st [p, q, r]) HSET.out))
      have HCS := Lib.hid (fun W (h : Below (w.heap.size + 3) W0 W) => hcs W (HLO.out W h))
      have HLD := Lib.hid (fun W (h : Below (w.heap.size + 3) W0 W) => load_stake W b0 (off + j * 3) p q r (HCS.out W h))
      clear hcs hy HSET
      have k0 := HCS.out wr HS.out.lo 0 p rfl
      have k1 := HCS.out wr HS.out.lo 1 q rfl
      have k2 := HCS.out wr HS.out.lo 2 r rfl
      rw [Nat.add_zero] at k0
      go_upto_region 7 with ((with_reducible refine atStore (ty := 73) (x := .tmp 8) (y := .tmp 23) rfl ?_); refine wpList_store_row rfl 73 (.tmp 8) (.tmp 23) rfl wr.heap.size #[.int .i64 p, .int .i64 q, .int .i64 r] rfl rfl 73 #[.int .i64 0, .int .i64 0, .int .i64 0] (heap_alloc_new wr _) info45 rfl (by simp [Value.oneCell']) ?_)
      refine at_world (Φ := fun W => Below wr.heap.size wr W ∧ W.heap[wr.heap.size]? = some (.cells #[.int .i64 p, .int .i64 q, .int .i64 r] 73 (0, 0))) ⟨below_rowB ((Below.refl _ _).alloc (Nat.le_refl _) _) (Nat.le_refl _), setRow_heap _ _ _ _ _ _ (heap_alloc_new wr _)⟩ ?_
      rintro W6 ⟨hbW, hyW⟩
      have HSq := Lib.hid (show SetSt (w.heap.size + 3) W0 73 3 o u5 W6 from ⟨own_below' HS.out.row hbW, HS.out.lo.trans (hbW.mono HS.out.sz), Nat.le_trans HS.out.sz hbW.size⟩)
      have HY := Lib.hid hyW
      have HNE := Lib.hid (show ∀ i, Value.ownBlock u5 = some i → i < wr.heap.size from fun i hi => (HS.out.row.lt i hi).2)
      have HZ8 := Lib.hid (Array.getElem?_eq_some_iff.1 hyW).1
      clear hbW hyW c0 k0 k1 k2
      have b1 : o.length + 1 ≤ maxLen := by unfold maxLen; omega
      have b2 : (o.length + 1) * 24 ≤ 140737488355328 := by omega
      have b0 : o.length ≤ 1001 := by omega
      obtain ⟨b3, b4⟩ := room2 24 (by decide) b0
      rcases Int.lt_trichotomy p p0 with hp | hp | hp
      · cases d with
        | true =>
          have g : (p == p0) = false := by rw [beq_eq_false_iff_ne]; omega
          have g0 : ¬ p0 < p := by omega
          have hne : ¬ p = p0 := by omega
          have hne2 : ¬ p0 = p := by omega
          have HN : Hid (setS (ge2 [p0, q0, r0]) (eq2 [p0, q0, r0]) [p0, q0, r0] (r0 == 0) (L.take (j + 1)) = (o ++ [[p, q, r]], true)) := by show _ = _; rw [HNX.out]; simp [setF, ge2, eq2, key, hne]
          clear HNX
          have x0 : W6.cell? ⟨w.heap.size + 1, 0, none⟩ = some (.int .i64 p0) := HCX.out _ HSq.out.lo 0
          have x1 : W6.cell? ⟨w.heap.size + 1, 1, none⟩ = some (.int .i64 q0) := HCX.out _ HSq.out.lo 1
          have y0 : W6.cell? ⟨wr.heap.size, 0, none⟩ = some (.int .i64 p) := by rw [cell_of_row _ _ _ _ 73 (0, 0) HY.out]; rfl
          have y1 : W6.cell? ⟨wr.heap.size, 1, none⟩ = some (.int .i64 q) := by rw [cell_of_row _ _ _ _ 73 (0, 0) HY.out]; rfl
          have y2 : W6.cell? ⟨wr.heap.size, 2, none⟩ = some (.int .i64 r) := by rw [cell_of_row _ _ _ _ 73 (0, 0) HY.out]; rfl
          go_wp2_with (first | ((with_reducible refine atLoad (ty := 73) (x := .tmp 8) rfl ?_); refine wpList_load_row rfl 73 (.tmp 8) rfl wr.heap.size rfl 73 #[.int .i64 p, .int .i64 q, .int .i64 r] (0, 0) _ HY.out Tryz.underlying73 rfl info45 ?_) | (at_builtin; (refine wpList_append_own _ rfl _ _ 23 rfl (w.heap.size + 3) 73 i0 (.agg #[.int .i64 0, .int .i64 0, .int .i64 0]) 3 24 Tryz.underlying23 hi0 hz0 hz1 hz2 rfl (by decide) _ _ _ rfl (HSq.out.row.alloc _) ⟨W6.heap.size, 0, none⟩ 1 1 [.int .i64 p, .int .i64 q, .int .i64 r] rfl rfl (new_cells _ [.int .i64 p, .int .i64 q, .int .i64 r] _) (one_items [p, q, r]) b1 b2 (Nat.le_trans HSq.out.sz (by simp)) ?_; intro v' S4w hown hgrow _; have S4 := Lib.hid (SetSt.app (x := [p, q, r]) HSq.out hown hgrow); clear hown hgrow)))
          go_roundw
          case rel => exact ⟨j + 1, _, _, rfl, by go_num, hlt, HN.out, S4.out⟩
          case measure => simp [intOf]; omega
        | false =>
          have g : (p == p0) = false := by rw [beq_eq_false_iff_ne]; omega
          have g0 : ¬ p0 < p := by omega
          have hne : ¬ p = p0 := by omega
          have hne2 : ¬ p0 = p := by omega
          have HN : Hid (setS (ge2 [p0, q0, r0]) (eq2 [p0, q0, r0]) [p0, q0, r0] (r0 == 0) (L.take (j + 1)) = (o ++ [[p, q, r]], false)) := by show _ = _; rw [HNX.out]; simp [setF, ge2, eq2, key, hne, hne2, g0]
          clear HNX
          have x0 : W6.cell? ⟨w.heap.size + 1, 0, none⟩ = some (.int .i64 p0) := HCX.out _ HSq.out.lo 0
          have x1 : W6.cell? ⟨w.heap.size + 1, 1, none⟩ = some (.int .i64 q0) := HCX.out _ HSq.out.lo 1
          have y0 : W6.cell? ⟨wr.heap.size, 0, none⟩ = some (.int .i64 p) := by rw [cell_of_row _ _ _ _ 73 (0, 0) HY.out]; rfl
          have y1 : W6.cell? ⟨wr.heap.size, 1, none⟩ = some (.int .i64 q) := by rw [cell_of_row _ _ _ _ 73 (0, 0) HY.out]; rfl
          have y2 : W6.cell? ⟨wr.heap.size, 2, none⟩ = some (.int .i64 r) := by rw [cell_of_row _ _ _ _ 73 (0, 0) HY.out]; rfl
          go_wp2_with (first | ((with_reducible refine atLoad (ty := 73) (x := .tmp 8) rfl ?_); refine wpList_load_row rfl 73 (.tmp 8) rfl wr.heap.size rfl 73 #[.int .i64 p, .int .i64 q, .int .i64 r] (0, 0) _ HY.out Tryz.underlying73 rfl info45 ?_) | (at_builtin; (refine wpList_append_own _ rfl _ _ 23 rfl (w.heap.size + 3) 73 i0 (.agg #[.int .i64 0, .int .i64 0, .int .i64 0]) 3 24 Tryz.underlying23 hi0 hz0 hz1 hz2 rfl (by decide) _ _ _ rfl (HSq.out.row.alloc _) ⟨W6.heap.size, 0, none⟩ 1 1 [.int .i64 p, .int .i64 q, .int .i64 r] rfl rfl (new_cells _ [.int .i64 p, .int .i64 q, .int .i64 r] _) (one_items [p, q, r]) b1 b2 (Nat.le_trans HSq.out.sz (by simp)) ?_; intro v' S4w hown hgrow _; have S4 := Lib.hid (SetSt.app (x := [p, q, r]) HSq.out hown hgrow); clear hown hgrow)))
          go_roundw
          case rel => exact ⟨j + 1, _, _, rfl, by go_num, hlt, HN.out, S4.out⟩
          case measure => simp [intOf]; omega
      · subst hp
        have g0 : ¬ p < p := by omega
        rcases Int.lt_trichotomy q q0 with hq | hq | hq
        · cases d with
          | true =>
            have gq : (q == q0) = false := by rw [beq_eq_false_iff_ne]; omega
            have gq2 : ¬ q0 ≤ q := by omega
            have hne : ¬ q = q0 := by omega
            have HN : Hid (setS (ge2 [p, q0, r0]) (eq2 [p, q0, r0]) [p, q0, r0] (r0 == 0) (L.take (j + 1)) = (o ++ [[p, q, r]], true)) := by show _ = _; rw [HNX.out]; simp [setF, ge2, eq2, key, hne]
            clear HNX
            have x0 : W6.cell? ⟨w.heap.size + 1, 0, none⟩ = some (.int .i64 p) := HCX.out _ HSq.out.lo 0
            have x1 : W6.cell? ⟨w.heap.size + 1, 1, none⟩ = some (.int .i64 q0) := HCX.out _ HSq.out.lo 1
            have y0 : W6.cell? ⟨wr.heap.size, 0, none⟩ = some (.int .i64 p) := by rw [cell_of_row _ _ _ _ 73 (0, 0) HY.out]; rfl
            have y1 : W6.cell? ⟨wr.heap.size, 1, none⟩ = some (.int .i64 q) := by rw [cell_of_row _ _ _ _ 73 (0, 0) HY.out]; rfl
            have y2 : W6.cell? ⟨wr.heap.size, 2, none⟩ = some (.int .i64 r) := by rw [cell_of_row _ _ _ _ 73 (0, 0) HY.out]; rfl
            go_wp2_with (first | ((with_reducible refine atLoad (ty := 73) (x := .tmp 8) rfl ?_); refine wpList_load_row rfl 73 (.tmp 8) rfl wr.heap.size rfl 73 #[.int .i64 p, .int .i64 q, .int .i64 r] (0, 0) _ HY.out Tryz.underlying73 rfl info45 ?_) | (at_builtin; (refine wpList_append_own _ rfl _ _ 23 rfl (w.heap.size + 3) 73 i0 (.agg #[.int .i64 0, .int .i64 0, .int .i64 0]) 3 24 Tryz.underlying23 hi0 hz0 hz1 hz2 rfl (by decide) _ _ _ rfl (HSq.out.row.alloc _) ⟨W6.heap.size, 0, none⟩ 1 1 [.int .i64 p, .int .i64 q, .int .i64 r] rfl rfl (new_cells _ [.int .i64 p, .int .i64 q, .int .i64 r] _) (one_items [p, q, r]) b1 b2 (Nat.le_trans HSq.out.sz (by simp)) ?_; intro v' S4w hown hgrow _; have S4 := Lib.hid (SetSt.app (x := [p, q, r]) HSq.out hown hgrow); clear hown hgrow)))
            go_roundw
            case rel => exact ⟨j + 1, _, _, rfl, by go_num, hlt, HN.out, S4.out⟩
            case measure => simp [intOf]; omega
          | false =>
            have gq : (q == q0) = false := by rw [beq_eq_false_iff_ne]; omega
            have gq2 : ¬ q0 ≤ q := by omega
            have hne : ¬ q = q0 := by omega
            have HN : Hid (setS (ge2 [p, q0, r0]) (eq2 [p, q0, r0]) [p, q0, r0] (r0 == 0) (L.take (j + 1)) = (o ++ [[p, q, r]], false)) := by show _ = _; rw [HNX.out]; simp [setF, ge2, eq2, key, hne, gq2]
            clear HNX
            have x0 : W6.cell? ⟨w.heap.size + 1, 0, none⟩ = some (.int .i64 p) := HCX.out _ HSq.out.lo 0
            have x1 : W6.cell? ⟨w.heap.size + 1, 1, none⟩ = some (.int .i64 q0) := HCX.out _ HSq.out.lo 1
            have y0 : W6.cell? ⟨wr.heap.size, 0, none⟩ = some (.int .i64 p) := by rw [cell_of_row _ _ _ _ 73 (0, 0) HY.out]; rfl
            have y1 : W6.cell? ⟨wr.heap.size, 1, none⟩ = some (.int .i64 q) := by rw [cell_of_row _ _ _ _ 73 (0, 0) HY.out]; rfl
            have y2 : W6.cell? ⟨wr.heap.size, 2, none⟩ = some (.int .i64 r) := by rw [cell_of_row _ _ _ _ 73 (0, 0) HY.out]; rfl
            go_wp2_with (first | ((with_reducible refine atLoad (ty := 73) (x := .tmp 8) rfl ?_); refine wpList_load_row rfl 73 (.tmp 8) rfl wr.heap.size rfl 73 #[.int .i64 p, .int .i64 q, .int .i64 r] (0, 0) _ HY.out Tryz.underlying73 rfl info45 ?_) | (at_builtin; (refine wpList_append_own _ rfl _ _ 23 rfl (w.heap.size + 3) 73 i0 (.agg #[.int .i64 0, .int .i64 0, .int .i64 0]) 3 24 Tryz.underlying23 hi0 hz0 hz1 hz2 rfl (by decide) _ _ _ rfl (HSq.out.row.alloc _) ⟨W6.heap.size, 0, none⟩ 1 1 [.int .i64 p, .int .i64 q, .int .i64 r] rfl rfl (new_cells _ [.int .i64 p, .int .i64 q, .int .i64 r] _) (one_items [p, q, r]) b1 b2 (Nat.le_trans HSq.out.sz (by simp)) ?_; intro v' S4w hown hgrow _; have S4 := Lib.hid (SetSt.app (x := [p, q, r]) HSq.out hown hgrow); clear hown hgrow)))
            go_roundw
            case rel => exact ⟨j + 1, _, _, rfl, by go_num, hlt, HN.out, S4.out⟩
            case measure => simp [intOf]; omega
        · subst hq
          cases d with
          | true =>
            have gq2 : q ≤ q := Int.le_refl _
            have HN : Hid (setS (ge2 [p, q, r0]) (eq2 [p, q, r0]) [p, q, r0] (r0 == 0) (L.take (j + 1)) = (o, true)) := by show _ = _; rw [HNX.out]; simp [setF, ge2, eq2, key]
            clear HNX
            have x0 : W6.cell? ⟨w.heap.size + 1, 0, none⟩ = some (.int .i64 p) := HCX.out _ HSq.out.lo 0
            have x1 : W6.cell? ⟨w.heap.size + 1, 1, none⟩ = some (.int .i64 q) := HCX.out _ HSq.out.lo 1
            have y0 : W6.cell? ⟨wr.heap.size, 0, none⟩ = some (.int .i64 p) := by rw [cell_of_row _ _ _ _ 73 (0, 0) HY.out]; rfl
            have y1 : W6.cell? ⟨wr.heap.size, 1, none⟩ = some (.int .i64 q) := by rw [cell_of_row _ _ _ _ 73 (0, 0) HY.out]; rfl
            have y2 : W6.cell? ⟨wr.heap.size, 2, none⟩ = some (.int .i64 r) := by rw [cell_of_row _ _ _ _ 73 (0, 0) HY.out]; rfl
            go_wp2
            go_roundw
            case rel => exact ⟨j + 1, _, _, rfl, by go_num, hlt, HN.out, HSq.out⟩
            case measure => simp [intOf]; omega
          | false =>
            have gq2 : q ≤ q := Int.le_refl _
            have HN : Hid (setS (ge2 [p, q, r0]) (eq2 [p, q, r0]) [p, q, r0] (r0 == 0) (L.take (j + 1)) = (o ++ [[p, q, r0]], true)) := by show _ = _; rw [HNX.out]; simp [setF, ge2, eq2, key]
            clear HNX
            have x0 : W6.cell? ⟨w.heap.size + 1, 0, none⟩ = some (.int .i64 p) := HCX.out _ HSq.out.lo 0
            have x1 : W6.cell? ⟨w.heap.size + 1, 1, none⟩ = some (.int .i64 q) := HCX.out _ HSq.out.lo 1
            have y0 : W6.cell? ⟨wr.heap.size, 0, none⟩ = some (.int .i64 p) := by rw [cell_of_row _ _ _ _ 73 (0, 0) HY.out]; rfl
            have y1 : W6.cell? ⟨wr.heap.size, 1, none⟩ = some (.int .i64 q) := by rw [cell_of_row _ _ _ _ 73 (0, 0) HY.out]; rfl
            have y2 : W6.cell? ⟨wr.heap.size, 2, none⟩ = some (.int .i64 r) := by rw [cell_of_row _ _ _ _ 73 (0, 0) HY.out]; rfl
            go_wp2_with (first | ((with_reducible refine atLoad (ty := 73) (x := .tmp 3) rfl ?_); refine wpList_load_row rfl 73 (.tmp 3) rfl (w.heap.size + 1) rfl 73 #[.int .i64 p, .int .i64 q, .int .i64 r0] (0, 0) _ (HX1.out _ HSq.out.lo) Tryz.underlying73 rfl info45 ?_) | (at_builtin; (refine wpList_append_own _ rfl _ _ 23 rfl (w.heap.size + 3) 73 i0 (.agg #[.int .i64 0, .int .i64 0, .int .i64 0]) 3 24 Tryz.underlying23 hi0 hz0 hz1 hz2 rfl (by decide) _ _ _ rfl (HSq.out.row.alloc _) ⟨W6.heap.size, 0, none⟩ 1 1 [.int .i64 p, .int .i64 q, .int .i64 r0] rfl rfl (new_cells _ [.int .i64 p, .int .i64 q, .int .i64 r0] _) (one_items [p, q, r0]) b1 b2 (Nat.le_trans HSq.out.sz (by simp)) ?_; intro v' S2w hown hgrow _; have S2 := Lib.hid (SetSt.app (x := [p, q, r0]) HSq.out hown hgrow); have HY2 := Lib.hid ((hgrow.block wr.heap.size (by rw [World.size_alloc]; exact Nat.lt_succ_of_lt HZ8.out) (fun e => Nat.lt_irrefl _ (HNE.out _ e.symm))).trans ((Below.heap_alloc _ _ _ HZ8.out).trans HY.out)); have z0 : S2w.cell? ⟨wr.heap.size, 0, none⟩ = some (.int .i64 p) := (by rw [cell_of_row _ _ _ _ 73 (0, 0) HY2.out]; rfl); have z1 : S2w.cell? ⟨wr.heap.size, 1, none⟩ = some (.int .i64 q) := (by rw [cell_of_row _ _ _ _ 73 (0, 0) HY2.out]; rfl); have xx0 : S2w.cell? ⟨w.heap.size + 1, 0, none⟩ = some (.int .i64 p) := HCX.out _ S2.out.lo 0; have xx1 : S2w.cell? ⟨w.heap.size + 1, 1, none⟩ = some (.int .i64 q) := HCX.out _ S2.out.lo 1; clear hown hgrow)))
            go_roundw
            case rel => exact ⟨j + 1, _, _, rfl, by go_num, hlt, HN.out, S2.out⟩
            case measure => simp [intOf]; omega
        · cases d with
          | true =>
            have gq : (q == q0) = false := by rw [beq_eq_false_iff_ne]; omega
            have gq2 : q0 ≤ q := by omega
            have hne : ¬ q = q0 := by omega
            have HN : Hid (setS (ge2 [p, q0, r0]) (eq2 [p, q0, r0]) [p, q0, r0] (r0 == 0) (L.take (j + 1)) = (o ++ [[p, q, r]], true)) := by show _ = _; rw [HNX.out]; simp [setF, ge2, eq2, key, hne]
            clear HNX
            have x0 : W6.cell? ⟨w.heap.size + 1, 0, none⟩ = some (.int .i64 p) := HCX.out _ HSq.out.lo 0
            have x1 : W6.cell? ⟨w.heap.size + 1, 1, none⟩ = some (.int .i64 q0) := HCX.out _ HSq.out.lo 1
            have y0 : W6.cell? ⟨wr.heap.size, 0, none⟩ = some (.int .i64 p) := by rw [cell_of_row _ _ _ _ 73 (0, 0) HY.out]; rfl
            have y1 : W6.cell? ⟨wr.heap.size, 1, none⟩ = some (.int .i64 q) := by rw [cell_of_row _ _ _ _ 73 (0, 0) HY.out]; rfl
            have y2 : W6.cell? ⟨wr.heap.size, 2, none⟩ = some (.int .i64 r) := by rw [cell_of_row _ _ _ _ 73 (0, 0) HY.out]; rfl
            go_wp2_with (first | ((with_reducible refine atLoad (ty := 73) (x := .tmp 8) rfl ?_); refine wpList_load_row rfl 73 (.tmp 8) rfl wr.heap.size rfl 73 #[.int .i64 p, .int .i64 q, .int .i64 r] (0, 0) _ HY.out Tryz.underlying73 rfl info45 ?_) | (at_builtin; (refine wpList_append_own _ rfl _ _ 23 rfl (w.heap.size + 3) 73 i0 (.agg #[.int .i64 0, .int .i64 0, .int .i64 0]) 3 24 Tryz.underlying23 hi0 hz0 hz1 hz2 rfl (by decide) _ _ _ rfl (HSq.out.row.alloc _) ⟨W6.heap.size, 0, none⟩ 1 1 [.int .i64 p, .int .i64 q, .int .i64 r] rfl rfl (new_cells _ [.int .i64 p, .int .i64 q, .int .i64 r] _) (one_items [p, q, r]) b1 b2 (Nat.le_trans HSq.out.sz (by simp)) ?_; intro v' S4w hown hgrow _; have S4 := Lib.hid (SetSt.app (x := [p, q, r]) HSq.out hown hgrow); clear hown hgrow)))
            go_roundw
            case rel => exact ⟨j + 1, _, _, rfl, by go_num, hlt, HN.out, S4.out⟩
            case measure => simp [intOf]; omega
          | false =>
            have gq : (q == q0) = false := by rw [beq_eq_false_iff_ne]; omega
            have gq2 : q0 ≤ q := by omega
            have hne : ¬ q = q0 := by omega
            have HN : Hid (setS (ge2 [p, q0, r0]) (eq2 [p, q0, r0]) [p, q0, r0] (r0 == 0) (L.take (j + 1)) = (o ++ [[p, q0, r0]] ++ [[p, q, r]], true)) := by show _ = _; rw [HNX.out]; simp [setF, ge2, eq2, key, hne, gq2]
            clear HNX
            have x0 : W6.cell? ⟨w.heap.size + 1, 0, none⟩ = some (.int .i64 p) := HCX.out _ HSq.out.lo 0
            have x1 : W6.cell? ⟨w.heap.size + 1, 1, none⟩ = some (.int .i64 q0) := HCX.out _ HSq.out.lo 1
            have y0 : W6.cell? ⟨wr.heap.size, 0, none⟩ = some (.int .i64 p) := by rw [cell_of_row _ _ _ _ 73 (0, 0) HY.out]; rfl
            have y1 : W6.cell? ⟨wr.heap.size, 1, none⟩ = some (.int .i64 q) := by rw [cell_of_row _ _ _ _ 73 (0, 0) HY.out]; rfl
            have y2 : W6.cell? ⟨wr.heap.size, 2, none⟩ = some (.int .i64 r) := by rw [cell_of_row _ _ _ _ 73 (0, 0) HY.out]; rfl
            have e1 : (o ++ [[p, q0, r0]]).length = o.length + 1 := by simp
            go_wp2_with (first | ((with_reducible refine atLoad (ty := 73) (x := .tmp 8) rfl ?_); refine wpList_load_row rfl 73 (.tmp 8) rfl wr.heap.size rfl 73 #[.int .i64 p, .int .i64 q, .int .i64 r] (0, 0) _ HY2.out Tryz.underlying73 rfl info45 ?_) | (at_builtin; (refine wpList_append_own _ rfl _ _ 23 rfl (w.heap.size + 3) 73 i0 (.agg #[.int .i64 0, .int .i64 0, .int .i64 0]) 3 24 Tryz.underlying23 hi0 hz0 hz1 hz2 rfl (by decide) _ _ _ rfl (S2.out.row.alloc _) ⟨S2w.heap.size, 0, none⟩ 1 1 [.int .i64 p, .int .i64 q, .int .i64 r] rfl rfl (new_cells _ [.int .i64 p, .int .i64 q, .int .i64 r] _) (one_items [p, q, r]) (by rw [List.length_append]; exact b3) (by rw [List.length_append]; exact b4) (Nat.le_trans S2.out.sz (by simp)) ?_; intro v' S4w hown hgrow _; have S4 := Lib.hid (SetSt.app (x := [p, q, r]) S2.out hown hgrow); clear hown hgrow)) | ((with_reducible refine atLoad (ty := 73) (x := .tmp 3) rfl ?_); refine wpList_load_row rfl 73 (.tmp 3) rfl (w.heap.size + 1) rfl 73 #[.int .i64 p, .int .i64 q0, .int .i64 r0] (0, 0) _ (HX1.out _ HSq.out.lo) Tryz.underlying73 rfl info45 ?_) | (at_builtin; (refine wpList_append_own _ rfl _ _ 23 rfl (w.heap.size + 3) 73 i0 (.agg #[.int .i64 0, .int .i64 0, .int .i64 0]) 3 24 Tryz.underlying23 hi0 hz0 hz1 hz2 rfl (by decide) _ _ _ rfl (HSq.out.row.alloc _) ⟨W6.heap.size, 0, none⟩ 1 1 [.int .i64 p, .int .i64 q0, .int .i64 r0] rfl rfl (new_cells _ [.int .i64 p, .int .i64 q0, .int .i64 r0] _) (one_items [p, q0, r0]) b1 b2 (Nat.le_trans HSq.out.sz (by simp)) ?_; intro v' S2w hown hgrow _; have S2 := Lib.hid (SetSt.app (x := [p, q0, r0]) HSq.out hown hgrow); have HY2 := Lib.hid ((hgrow.block wr.heap.size (by rw [World.size_alloc]; exact Nat.lt_succ_of_lt HZ8.out) (fun e => Nat.lt_irrefl _ (HNE.out _ e.symm))).trans ((Below.heap_alloc _ _ _ HZ8.out).trans HY.out)); have z0 : S2w.cell? ⟨wr.heap.size, 0, none⟩ = some (.int .i64 p) := (by rw [cell_of_row _ _ _ _ 73 (0, 0) HY2.out]; rfl); have z1 : S2w.cell? ⟨wr.heap.size, 1, none⟩ = some (.int .i64 q) := (by rw [cell_of_row _ _ _ _ 73 (0, 0) HY2.out]; rfl); have xx0 : S2w.cell? ⟨w.heap.size + 1, 0, none⟩ = some (.int .i64 p) := HCX.out _ S2.out.lo 0; have xx1 : S2w.cell? ⟨w.heap.size + 1, 1, none⟩ = some (.int .i64 q0) := HCX.out _ S2.out.lo 1; clear hown hgrow)))
            go_roundw
            case rel => exact ⟨j + 1, _, _, rfl, by go_num, hlt, HN.out, S4.out⟩
            case measure => simp [intOf]; omega
      · cases d with
        | true =>
          have g : (p == p0) = false := by rw [beq_eq_false_iff_ne]; omega
          have g0 : p0 < p := by omega
          have hne : ¬ p = p0 := by omega
          have hne2 : ¬ p0 = p := by omega
          have HN : Hid (setS (ge2 [p0, q0, r0]) (eq2 [p0, q0, r0]) [p0, q0, r0] (r0 == 0) (L.take (j + 1)) = (o ++ [[p, q, r]], true)) := by show _ = _; rw [HNX.out]; simp [setF, ge2, eq2, key, hne]
          clear HNX
          have x0 : W6.cell? ⟨w.heap.size + 1, 0, none⟩ = some (.int .i64 p0) := HCX.out _ HSq.out.lo 0
          have x1 : W6.cell? ⟨w.heap.size + 1, 1, none⟩ = some (.int .i64 q0) := HCX.out _ HSq.out.lo 1
          have y0 : W6.cell? ⟨wr.heap.size, 0, none⟩ = some (.int .i64 p) := by rw [cell_of_row _ _ _ _ 73 (0, 0) HY.out]; rfl
          have y1 : W6.cell? ⟨wr.heap.size, 1, none⟩ = some (.int .i64 q) := by rw [cell_of_row _ _ _ _ 73 (0, 0) HY.out]; rfl
          have y2 : W6.cell? ⟨wr.heap.size, 2, none⟩ = some (.int .i64 r) := by rw [cell_of_row _ _ _ _ 73 (0, 0) HY.out]; rfl
          go_wp2_with (first | ((with_reducible refine atLoad (ty := 73) (x := .tmp 8) rfl ?_); refine wpList_load_row rfl 73 (.tmp 8) rfl wr.heap.size rfl 73 #[.int .i64 p, .int .i64 q, .int .i64 r] (0, 0) _ HY.out Tryz.underlying73 rfl info45 ?_) | (at_builtin; (refine wpList_append_own _ rfl _ _ 23 rfl (w.heap.size + 3) 73 i0 (.agg #[.int .i64 0, .int .i64 0, .int .i64 0]) 3 24 Tryz.underlying23 hi0 hz0 hz1 hz2 rfl (by decide) _ _ _ rfl (HSq.out.row.alloc _) ⟨W6.heap.size, 0, none⟩ 1 1 [.int .i64 p, .int .i64 q, .int .i64 r] rfl rfl (new_cells _ [.int .i64 p, .int .i64 q, .int .i64 r] _) (one_items [p, q, r]) b1 b2 (Nat.le_trans HSq.out.sz (by simp)) ?_; intro v' S4w hown hgrow _; have S4 := Lib.hid (SetSt.app (x := [p, q, r]) HSq.out hown hgrow); clear hown hgrow)))
          go_roundw
          case rel => exact ⟨j + 1, _, _, rfl, by go_num, hlt, HN.out, S4.out⟩
          case measure => simp [intOf]; omega
        | false =>
          have g : (p == p0) = false := by rw [beq_eq_false_iff_ne]; omega
          have g0 : p0 < p := by omega
          have hne : ¬ p = p0 := by omega
          have hne2 : ¬ p0 = p := by omega
          have HN : Hid (setS (ge2 [p0, q0, r0]) (eq2 [p0, q0, r0]) [p0, q0, r0] (r0 == 0) (L.take (j + 1)) = (o ++ [[p0, q0, r0]] ++ [[p, q, r]], true)) := by show _ = _; rw [HNX.out]; simp [setF, ge2, eq2, key, hne, g0]
          clear HNX
          have x0 : W6.cell? ⟨w.heap.size + 1, 0, none⟩ = some (.int .i64 p0) := HCX.out _ HSq.out.lo 0
          have x1 : W6.cell? ⟨w.heap.size + 1, 1, none⟩ = some (.int .i64 q0) := HCX.out _ HSq.out.lo 1
          have y0 : W6.cell? ⟨wr.heap.size, 0, none⟩ = some (.int .i64 p) := by rw [cell_of_row _ _ _ _ 73 (0, 0) HY.out]; rfl
          have y1 : W6.cell? ⟨wr.heap.size, 1, none⟩ = some (.int .i64 q) := by rw [cell_of_row _ _ _ _ 73 (0, 0) HY.out]; rfl
          have y2 : W6.cell? ⟨wr.heap.size, 2, none⟩ = some (.int .i64 r) := by rw [cell_of_row _ _ _ _ 73 (0, 0) HY.out]; rfl
          have e1 : (o ++ [[p0, q0, r0]]).length = o.length + 1 := by simp
          go_wp2_with (first | ((with_reducible refine atLoad (ty := 73) (x := .tmp 8) rfl ?_); refine wpList_load_row rfl 73 (.tmp 8) rfl wr.heap.size rfl 73 #[.int .i64 p, .int .i64 q, .int .i64 r] (0, 0) _ HY2.out Tryz.underlying73 rfl info45 ?_) | (at_builtin; (refine wpList_append_own _ rfl _ _ 23 rfl (w.heap.size + 3) 73 i0 (.agg #[.int .i64 0, .int .i64 0, .int .i64 0]) 3 24 Tryz.underlying23 hi0 hz0 hz1 hz2 rfl (by decide) _ _ _ rfl (S2.out.row.alloc _) ⟨S2w.heap.size, 0, none⟩ 1 1 [.int .i64 p, .int .i64 q, .int .i64 r] rfl rfl (new_cells _ [.int .i64 p, .int .i64 q, .int .i64 r] _) (one_items [p, q, r]) (by rw [List.length_append]; exact b3) (by rw [List.length_append]; exact b4) (Nat.le_trans S2.out.sz (by simp)) ?_; intro v' S4w hown hgrow _; have S4 := Lib.hid (SetSt.app (x := [p, q, r]) S2.out hown hgrow); clear hown hgrow)) | ((with_reducible refine atLoad (ty := 73) (x := .tmp 3) rfl ?_); refine wpList_load_row rfl 73 (.tmp 3) rfl (w.heap.size + 1) rfl 73 #[.int .i64 p0, .int .i64 q0, .int .i64 r0] (0, 0) _ (HX1.out _ HSq.out.lo) Tryz.underlying73 rfl info45 ?_) | (at_builtin; (refine wpList_append_own _ rfl _ _ 23 rfl (w.heap.size + 3) 73 i0 (.agg #[.int .i64 0, .int .i64 0, .int .i64 0]) 3 24 Tryz.underlying23 hi0 hz0 hz1 hz2 rfl (by decide) _ _ _ rfl (HSq.out.row.alloc _) ⟨W6.heap.size, 0, none⟩ 1 1 [.int .i64 p0, .int .i64 q0, .int .i64 r0] rfl rfl (new_cells _ [.int .i64 p0, .int .i64 q0, .int .i64 r0] _) (one_items [p0, q0, r0]) b1 b2 (Nat.le_trans HSq.out.sz (by simp)) ?_; intro v' S2w hown hgrow _; have S2 := Lib.hid (SetSt.app (x := [p0, q0, r0]) HSq.out hown hgrow); have HY2 := Lib.hid ((hgrow.block wr.heap.size (by rw [World.size_alloc]; exact Nat.lt_succ_of_lt HZ8.out) (fun e => Nat.lt_irrefl _ (HNE.out _ e.symm))).trans ((Below.heap_alloc _ _ _ HZ8.out).trans HY.out)); have z0 : S2w.cell? ⟨wr.heap.size, 0, none⟩ = some (.int .i64 p) := (by rw [cell_of_row _ _ _ _ 73 (0, 0) HY2.out]; rfl); have z1 : S2w.cell? ⟨wr.heap.size, 1, none⟩ = some (.int .i64 q) := (by rw [cell_of_row _ _ _ _ 73 (0, 0) HY2.out]; rfl); have xx0 : S2w.cell? ⟨w.heap.size + 1, 0, none⟩ = some (.int .i64 p0) := HCX.out _ S2.out.lo 0; have xx1 : S2w.cell? ⟨w.heap.size + 1, 1, none⟩ = some (.int .i64 q0) := HCX.out _ S2.out.lo 1; clear hown hgrow)))
          go_roundw
          case rel => exact ⟨j + 1, _, _, rfl, by go_num, hlt, HN.out, S4.out⟩
          case measure => simp [intOf]; omega
    · have hjl : L.length ≤ j := by omega
      have hse : setS (ge2 [p0, q0, r0]) (eq2 [p0, q0, r0]) [p0, q0, r0] (r0 == 0) L = (o, d) := by have := HSET.out; rwa [List.take_of_length_le hjl] at this
      cases d with
      | true =>
        have HO := Lib.hid (show setL (ge2 [p0, q0, r0]) (eq2 [p0, q0, r0]) [p0, q0, r0] (r0 == 0) L = o by unfold setL; rw [hse]; rfl)
        have HKO := Lib.hid (show ∀ x ∈ o, x.length = 3 from fun x hx => by have h2 := (setS_len (ge2 [p0, q0, r0]) (eq2 [p0, q0, r0]) [p0, q0, r0] (r0 == 0) L).2 x (by rw [hse]; exact hx); rcases h2 with rfl | h2; rfl; exact (HK.out x h2).1)
        clear hse HSET hjl
        obtain ⟨av, cv, hv⟩ := own_formK HS.out.row
        subst hv
        have hbx : wr.heap[w.heap.size]? = some (.cells (cellsB v b) 27 (0, 0)) := HBX.out _ HS.out.lo
        have hfz := free_of_blkN hbx 1
        have hcc := HCB.out _ HS.out.lo
        have H27 := Lib.hid (show (wr.setCell ⟨w.heap.size, 1, none⟩ (.slice av o.length cv)).heap[w.heap.size]? = some (.cells #[.slice v.h b.hs.length v.ch, .slice av o.length cv, .slice v.o b.os.length v.co, .slice v.r b.rs.length v.cr, .int .i64 b.co] 27 (0, 0)) from set_blkN hbx 1 _)
        have H2 := Lib.hid (show (wr.setCell ⟨w.heap.size, 1, none⟩ (.slice av o.length cv)).heap[w.heap.size + 1 + 1]? = some (.cells #[.slice none 0 0, .slice none 0 0, .slice none 0 0, .slice none 0 0, .int .i64 0] 27 (0, 0)) from (Below.heap_setCell _ _ _ _ (by dsimp only; omega)).trans (HX2.out _ HS.out.lo))
        have HLW := Lib.hid (below_row1 ((HLO.out _ HS.out.lo).setCell (p := ⟨w.heap.size, 1, none⟩) (Nat.le_refl _) (.slice av o.length cv)) (show w.heap.size ≤ w.heap.size + 1 + 1 by omega) (ks := #[.slice v.h b.hs.length v.ch, .slice av o.length cv, .slice v.o b.os.length v.co, .slice v.r b.rs.length v.cr, .int .i64 b.co]))
        have HRW := Lib.hid (rows_own (by decide) HKO.out (own_low HS.out.row (fun i hi => (setRow_ne #[.slice v.h b.hs.length v.ch, .slice av o.length cv, .slice v.o b.os.length v.co, .slice v.r b.rs.length v.cr, .int .i64 b.co] (show i ≠ w.heap.size + 1 + 1 by omega)).trans (Below.heap_setCell wr ⟨w.heap.size, 1, none⟩ (.slice av o.length cv) i (by dsimp only; omega)))))
        clear hbx
        clear HBX HROW HK HCX
        go_wp2_with (first | ((with_reducible refine atLoad (ty := 27) (x := .tmp 2) rfl ?_); refine wpList_load_row rfl 27 (.tmp 2) rfl w.heap.size rfl 27 #[.slice v.h b.hs.length v.ch, .slice av o.length cv, .slice v.o b.os.length v.co, .slice v.r b.rs.length v.cr, .int .i64 b.co] (0, 0) _ H27.out Tryz.underlying27 rfl info27 ?_) | ((with_reducible refine atStore (ty := 27) (x := .tmp 4) (y := .tmp 75) rfl ?_); refine wpList_store_row rfl 27 (.tmp 4) (.tmp 75) rfl (w.heap.size + 1 + 1) #[.slice v.h b.hs.length v.ch, .slice av o.length cv, .slice v.o b.os.length v.co, .slice v.r b.rs.length v.cr, .int .i64 b.co] rfl rfl 27 #[.slice none 0 0, .slice none 0 0, .slice none 0 0, .slice none 0 0, .int .i64 0] H2.out info27 rfl (by simp [Value.oneCell']) ?_))
        refine ret_cell rfl rfl rfl (setRow_heap _ _ _ _ _ _ H2.out) Tryz.underlying27 rfl info27 ?_
        rw [← HPO.out, HRES.out, HO.out]
        obtain ⟨a', c', hv', hri⟩ := HRW.out
        have e1 : av = a' ∧ cv = c' := by simpa using hv'
        obtain ⟨rfl, rfl⟩ := e1
        have hbw := HBI.out.below HLW.out
        exact ⟨⟨{ v with s := av, cs := cv }, by unfold cellsB; simp, ⟨hbw.hs, hri, hbw.os, hbw.rs⟩⟩, HLW.out⟩
      | false =>
        have HO := Lib.hid (show setL (ge2 [p0, q0, r0]) (eq2 [p0, q0, r0]) [p0, q0, r0] (r0 == 0) L = o ++ [[p0, q0, r0]] by unfold setL; rw [hse]; rfl)
        have HKO := Lib.hid (show ∀ x ∈ o ++ [[p0, q0, r0]], x.length = 3 from fun x hx => by rcases List.mem_append.1 hx with hx | hx; have h2 := (setS_len (ge2 [p0, q0, r0]) (eq2 [p0, q0, r0]) [p0, q0, r0] (r0 == 0) L).2 x (by rw [hse]; exact hx); rcases h2 with rfl | h2; rfl; exact (HK.out x h2).1; rw [List.mem_singleton.1 hx]; rfl)
        clear hse HSET hjl
        have b1 : o.length + 1 ≤ maxLen := by unfold maxLen; omega
        have b2 : (o.length + 1) * 24 ≤ 140737488355328 := by omega
        go_wp2_with (first | ((with_reducible refine atLoad (ty := 27) (x := .tmp 2) rfl ?_); refine wpList_load_row rfl 27 (.tmp 2) rfl w.heap.size rfl 27 #[.slice v.h b.hs.length v.ch, .slice av (o.length + 1) cv, .slice v.o b.os.length v.co, .slice v.r b.rs.length v.cr, .int .i64 b.co] (0, 0) _ H27.out Tryz.underlying27 rfl info27 ?_) | ((with_reducible refine atStore (ty := 27) (x := .tmp 4) (y := .tmp 75) rfl ?_); refine wpList_store_row rfl 27 (.tmp 4) (.tmp 75) rfl (w.heap.size + 1 + 1) #[.slice v.h b.hs.length v.ch, .slice av (o.length + 1) cv, .slice v.o b.os.length v.co, .slice v.r b.rs.length v.cr, .int .i64 b.co] rfl rfl 27 #[.slice none 0 0, .slice none 0 0, .slice none 0 0, .slice none 0 0, .int .i64 0] H2.out info27 rfl (by simp [Value.oneCell']) ?_) | ((with_reducible refine atLoad (ty := 73) (x := .tmp 3) rfl ?_); refine wpList_load_row rfl 73 (.tmp 3) rfl (w.heap.size + 1) rfl 73 #[.int .i64 p0, .int .i64 q0, .int .i64 r0] (0, 0) _ (HX1.out _ HS.out.lo) Tryz.underlying73 rfl info45 ?_) | (at_builtin; (refine wpList_append_own _ rfl _ _ 23 rfl (w.heap.size + 3) 73 i0 (.agg #[.int .i64 0, .int .i64 0, .int .i64 0]) 3 24 Tryz.underlying23 hi0 hz0 hz1 hz2 rfl (by decide) _ _ _ rfl (HS.out.row.alloc _) ⟨wr.heap.size, 0, none⟩ 1 1 [.int .i64 p0, .int .i64 q0, .int .i64 r0] rfl rfl (new_cells _ [.int .i64 p0, .int .i64 q0, .int .i64 r0] _) (one_items [p0, q0, r0]) b1 b2 (Nat.le_trans HS.out.sz (by simp)) ?_; intro v' S2w hown hgrow _; have S2 := Lib.hid (SetSt.app (x := [p0, q0, r0]) HS.out hown hgrow); obtain ⟨av, cv, hv⟩ := own_formK hown; subst hv; clear hown hgrow; have hbx : S2w.heap[w.heap.size]? = some (.cells (cellsB v b) 27 (0, 0)) := HBX.out _ S2.out.lo; have hfz := free_of_blkN hbx 1; have hcc := HCB.out _ S2.out.lo; have H27 := Lib.hid (show (S2w.setCell ⟨w.heap.size, 1, none⟩ (.slice av (o.length + 1) cv)).heap[w.heap.size]? = some (.cells #[.slice v.h b.hs.length v.ch, .slice av (o.length + 1) cv, .slice v.o b.os.length v.co, .slice v.r b.rs.length v.cr, .int .i64 b.co] 27 (0, 0)) from set_blkN hbx 1 _); have H2 := Lib.hid (show (S2w.setCell ⟨w.heap.size, 1, none⟩ (.slice av (o.length + 1) cv)).heap[w.heap.size + 1 + 1]? = some (.cells #[.slice none 0 0, .slice none 0 0, .slice none 0 0, .slice none 0 0, .int .i64 0] 27 (0, 0)) from (Below.heap_setCell _ _ _ _ (by dsimp only; omega)).trans (HX2.out _ S2.out.lo)); have HLW := Lib.hid (below_row1 ((HLO.out _ S2.out.lo).setCell (p := ⟨w.heap.size, 1, none⟩) (Nat.le_refl _) (.slice av (o.length + 1) cv)) (show w.heap.size ≤ w.heap.size + 1 + 1 by omega) (ks := #[.slice v.h b.hs.length v.ch, .slice av (o.length + 1) cv, .slice v.o b.os.length v.co, .slice v.r b.rs.length v.cr, .int .i64 b.co])); have HRW := Lib.hid (rows_own (by decide) HKO.out (own_low S2.out.row (fun i hi => (setRow_ne #[.slice v.h b.hs.length v.ch, .slice av (o.length + 1) cv, .slice v.o b.os.length v.co, .slice v.r b.rs.length v.cr, .int .i64 b.co] (show i ≠ w.heap.size + 1 + 1 by omega)).trans (Below.heap_setCell S2w ⟨w.heap.size, 1, none⟩ (.slice av (o.length + 1) cv) i (by dsimp only; omega))))); clear hbx)))
        refine ret_cell rfl rfl rfl (setRow_heap _ _ _ _ _ _ H2.out) Tryz.underlying27 rfl info27 ?_
        rw [← HPO.out, HRES.out, HO.out]
        obtain ⟨a', c', hv', hri⟩ := HRW.out
        have e1 : av = a' ∧ cv = c' := by simpa using hv'
        obtain ⟨rfl, rfl⟩ := e1
        have hbw := HBI.out.below HLW.out
        exact ⟨⟨{ v with s := av, cs := cv }, by unfold cellsB; simp, ⟨hbw.hs, hri, hbw.os, hbw.rs⟩⟩, HLW.out⟩
end Go.Proofs.YtellifcjamedkaaGreat
