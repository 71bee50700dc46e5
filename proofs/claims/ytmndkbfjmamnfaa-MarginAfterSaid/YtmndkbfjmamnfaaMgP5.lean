/- The program's Need: the contract. -/
import Derived.Test.YtmndkbfjmamnfaaMgP4
import Derived.Test.YtmndkbfjmamnfaaMgRef3
namespace Go.Proofs.Ytmndkbfjmamnfaa
open Go.RowKit Go.Shelf Base Base2

attribute [local go_sem] Oper.semAt_some
theorem share_fine {z r : Int} (hz : Fine z) : 0 ≤ z → 0 ≤ r → r ≤ 1000 → In192 (z * r + 99) := fun h1 h2 h3 => by
  have h0 := Int.mul_nonneg h1 h2
  have hm : (z * r).natAbs ≤ 1000000000000000000000000000000000000000000 * 1000000 := by
    rw [Int.natAbs_mul]
    exact Nat.le_trans (Nat.mul_le_mul hz (show r.natAbs ≤ 1000 by omega)) (by decide)
  unfold In192
  omega
theorem four_alloc {w : World} {A B C D : Obj} : ((((w.alloc A).alloc B).alloc C).alloc D).heap[w.heap.size]? = some A ∧ ((((w.alloc A).alloc B).alloc C).alloc D).heap[w.heap.size + 1]? = some B ∧ ((((w.alloc A).alloc B).alloc C).alloc D).heap[w.heap.size + 1 + 1]? = some C ∧ ((((w.alloc A).alloc B).alloc C).alloc D).heap[w.heap.size + 1 + 1 + 1]? = some D ∧ Below w.heap.size w ((((w.alloc A).alloc B).alloc C).alloc D) := by
  obtain ⟨h1, h2, h3, h4⟩ := three_alloc (w := w) (A := A) (B := B) (C := C)
  have hz : (((w.alloc A).alloc B).alloc C).heap.size = w.heap.size + 1 + 1 + 1 := by simp
  have h5 := heap_alloc_new (((w.alloc A).alloc B).alloc C) D
  have hb := (Below.refl _ (((w.alloc A).alloc B).alloc C)).alloc (Nat.le_refl _) D
  rw [hz] at h5
  exact ⟨(hb.block _ (blk_ltK h1)).trans h1, (hb.block _ (blk_ltK h2)).trans h2, (hb.block _ (blk_ltK h3)).trans h3, h5, h4.alloc (by simp; omega) D⟩
theorem ord_agg (s0 s1 s2 s3 s4 s5 : Int) : encO [s0, s1, s2, s3, s4, s5] = #[.agg #[.int .i64 s0, .int .i64 s1, .int .i64 s2, .int .i64 s3, .int .i64 s4, .int .i64 s5]] := rfl
theorem order_of {b : BookT} (hk : BookOk 2000 b) {a : Int} {pre s : List Item} {x : Item} (h : pre ++ [x] ++ s = ofAcc 1 a b.os) : x ∈ b.os ∧ ∃ s0 s1 s2 s3 s4 s5, x = [s0, s1, s2, s3, s4, s5] := by
  have hx : x ∈ b.os := (ofAcc_mem (j := 1) (a := a) (by rw [← h]; simp)).1
  exact ⟨hx, item6 (hk.os.2 x hx).1⟩
set_option maxRecDepth 100000 in
set_option maxHeartbeats 8000000 in
theorem pneed10 (v : Slots) (b : BookT) (acc q pc r : Int) (w : World) (hb : BookIn w v b) (hk : BookOk 2000 b) (hq : In64' q) (hpc : In64' pc) (hr : In64' r) :
    Calls Try.prog 10 #[.agg (cellsB v b), .int .i64 acc, .int .i64 q, .int .i64 pc, .int .i64 r] w fun e w' => e = .returned (.tuple #[.int .i64 (if mayT b then (if mayB (exT b acc q pc) r then fitV (shr (exT b acc q pc) r) else 0) else 0), .bool (mayT b && (mayB (exT b acc q pc) r && fitB (shr (exT b acc q pc) r)))]) ∧ Below w.heap.size w w' := by
  obtain ⟨W0, hW0⟩ : ∃ x, w.alloc (.cells (cellsB v b) 27) = x := ⟨_, rfl⟩
  have hA : Below w.heap.size w W0 := by rw [← hW0]; exact (Below.refl _ w).alloc (Nat.le_refl _) _
  have hs0 : W0.heap.size = w.heap.size + 1 := by rw [← hW0]; simp
  have hg : BoxB W0 w.heap.size v b := by rw [← hW0]; exact BoxB.new w v b
  have HA := Lib.hid hA
  have HLB := Lib.hid (fun W (h : Below W0.heap.size W0 W) => load_book (hg.below h (blk_ltK hg)))
  have HMY := Lib.hid (pmay9 v b W0 (hb.below hA) hk)
  obtain ⟨fe, hfe⟩ : ∃ x, Ending.returned (.tuple #[.int .i64 (if mayT b then (if mayB (exT b acc q pc) r then fitV (shr (exT b acc q pc) r) else 0) else 0), .bool (mayT b && (mayB (exT b acc q pc) r && fitB (shr (exT b acc q pc) r)))]) = x := ⟨_, rfl⟩
  have HFE := Lib.hid hfe
  rw [hfe]
  clear hfe
  cases hm : mayT b with
  | false =>
    rw [hm, if_neg (by simp), Bool.false_and] at HFE
    rw [hm] at HMY
    clear hb hk hg hA hm hs0 hq hpc hr
    generalize cellsB v b = CA at *
    go_enter Try.func10, Try.ntmps10
    go_wp2_with (first
      | ((with_reducible refine atLoad (ty := 27) (x := .tmp 5) rfl ?_); refine loadE (wanted_noneD rfl) 27 (.tmp 5) rfl _ (.agg CA) rfl (HLB.out _ (Below.refl _ _)) ?_)
      | (go_at_call 20; refine HMY.out.mono ?_; rintro e w1 ⟨rfl, hb1⟩; have HB1 := Lib.hid hb1; clear hb1))
    go_ret2
    exact ⟨HFE.out, HA.out.trans (HB1.out.mono HA.out.size)⟩
  | true =>
    rw [hm, if_pos rfl, Bool.true_and] at HFE
    rw [hm] at HMY
    obtain ⟨r1, r2, _⟩ := may_rises hm
    have HSZ := Lib.hid (fun W => sizes26 v b acc W)
    have HOR := Lib.hid (fun W => orders27 v b acc W)
    have HBI := Lib.hid hb
    have HK := Lib.hid hk
    have HM := Lib.hid hm
    have HRS := Lib.hid r2
    have HQ := Lib.hid hq
    have HPC := Lib.hid hpc
    have HR := Lib.hid hr
    have HEX := Lib.hid (show exT b acc q pc = sumI (exW b) (ofAcc 0 acc b.ss) + sumI ordW (ofAcc 1 acc b.os) + q * pc by unfold exT; omega)
    clear hb hk hm r1 r2 hA hq hpc hr
    refine (callsIn_wide (n := 10)).1 ?_
    refine callsIn_of_wp_marks Try.func10 rfl trivial ?_ rfl
    simp only [Try.ntmps10, List.size_toArray, List.length_cons, List.length_nil, Nat.reduceAdd, Nat.reduceSub, Array.replicate_succ, Array.replicate_zero, List.push_toArray, List.append_toArray, List.nil_append, List.cons_append]
    generalize hCA : cellsB v b = CA at *
    have HCA := Lib.hid hCA
    clear hCA
    have HS0 := Lib.hid hs0
    clear hs0
    gi_wp2_with (first
      | (have hq := HL5.out; clear hq; (with_reducible refine atLoadIn (ty := 27) (x := .tmp 5) rfl ?_); refine loadEIn (wanted_noneD rfl) (fun _ _ => trivial) 27 (.tmp 5) rfl _ (.agg CA) rfl HL5.out ?_)
      | ((with_reducible refine atLoadIn (ty := 27) (x := .tmp 5) rfl ?_); refine loadEIn (wanted_noneD rfl) (fun _ _ => trivial) 27 (.tmp 5) rfl _ (.agg CA) rfl (HLB.out _ (Below.refl _ _)) ?_)
      | (refine ⟨trivial, ?_⟩; gi_at_call 20; refine (callsIn_wide.2 HMY.out).mono ?_; rintro e w1 ⟨rfl, hb1⟩; have HB1 := Lib.hid hb1; have HL5 := Lib.hid (HLB.out _ ((hb1.alloc hb1.size (.cells #[.int .u64 0, .int .u64 0, .int .u64 0] 54)).alloc (by have := hb1.size; simp; omega) (.cells #[.func (.func 23) #[.pointer (some ⟨w1.heap.size, 0, none⟩)] #[]] 57))); clear hb1)
      | (refine ⟨trivial, ?_⟩; gi_at_call 26; refine (callsIn_wide.2 (HSZ.out _)).mono ?_; rintro e w6 ⟨rfl, hw6⟩; have HW6 := Lib.hid hw6; clear hw6))
    have h3 := four_alloc (w := w1) (A := .cells #[.int .u64 0, .int .u64 0, .int .u64 0] 54) (B := .cells #[.func (.func 23) #[.pointer (some ⟨w1.heap.size, 0, none⟩)] #[]] 57) (C := .cells CA 27) (D := .cells #[.int .i64 acc] 2)
    rw [← HW6.out] at h3
    obtain ⟨x0, x1, x2, x3, x4⟩ := h3
    have hs6 : w6.heap.size = w1.heap.size + 4 := by rw [HW6.out]; simp
    have hw1 : w.heap.size < w1.heap.size := by have := HB1.out.size; have := HS0.out; omega
    have hw6 : Below w.heap.size w w6 := HA.out.trans ((HB1.out.trans (x4.mono HB1.out.size)).mono HA.out.size)
    have HN6 := Lib.hid (show NumAt w6 w1.heap.size 54 0 from (num_new w1).blk (by rw [x0]; exact (heap_alloc_new w1 _).symm))
    have HSI := Lib.hid (show SumI w6.heap.size w1.heap.size (w1.heap.size + 1) 57 (.func (.func 23) #[.pointer (some ⟨w1.heap.size, 0, none⟩)] #[]) w 0 w6 from ⟨HN6.out, x1, hw6, Nat.le_refl _⟩)
    have HBX := Lib.hid (show BoxB w6 w.heap.size v b from ((HB1.out.trans (x4.mono HB1.out.size)).block _ (by have := HS0.out; omega)).trans hg)
    have hseq := sizes_seq (RSum w1.heap.size) w v b HBI.out HK.out HM.out HRS.out acc (w1.heap.size + 1 + 1) (w1.heap.size + 1 + 1 + 1) w6 hw6 (by unfold BoxB; rw [HCA.out]; exact x2) x3 (fun k o h => by rw [h.1]; omega) (RSum.no _) (fun _ _ h => h.cells)
    have HSQ := Lib.hid hseq
    clear x0 x1 x2 x3 x4 hseq HLB HMY HSZ HB1 HL5 HW6 hg hW0 HN6
    refine range_kinds (gf := 52) (lb := #[.pointer (some ⟨w1.heap.size + 1 + 1, 0, none⟩), .pointer (some ⟨w1.heap.size + 1 + 1 + 1, 0, none⟩)]) (w := w6) rfl (enters_of Try.func52 (by kernel_rfl) rfl) HSQ.out (fun _ _ h => .inl h.cells) (Below.refl _ _) (fun _ => rfl)
      (fun pre W => (∃ s, pre ++ s = ofAcc 0 acc b.ss) ∧ SumI w6.heap.size w1.heap.size (w1.heap.size + 1) 57 (.func (.func 23) #[.pointer (some ⟨w1.heap.size, 0, none⟩)] #[]) w (sumI (exW b) pre) W ∧ BoxB W w.heap.size v b) (fun _ _ _ => False) ?bi ?bx ?h0
      (fun pre x a' W => (∃ s, pre ++ [x] ++ s = ofAcc 0 acc b.ss) ∧ (SumI w6.heap.size w1.heap.size (w1.heap.size + 1) 57 (.func (.func 23) #[.pointer (some ⟨w1.heap.size, 0, none⟩)] #[]) w (sumI (exW b) pre) W ∧ BoxB W w.heap.size v b) ∧ a' = ⟨#[.agg CA, .int .i64 acc, .int .i64 q, .int .i64 pc, .int .i64 r, .pointer (some ⟨w.heap.size, 0, none⟩), undef, undef, undef, undef, .int .i64 0, .bool false, .pointer (some ⟨w1.heap.size, 0, none⟩), .pointer (some ⟨w1.heap.size + 1, 0, none⟩), .int .i64 (key 2 x), .int .i64 (atW b x), undef, .agg CA, .bool true, .bool false, .func (.func 23) #[.pointer (some ⟨w1.heap.size, 0, none⟩)] #[], .agg CA, .int .i64 acc, .func (.func 52) #[] #[.pointer (some ⟨w1.heap.size + 1 + 1, 0, none⟩), .pointer (some ⟨w1.heap.size + 1 + 1 + 1, 0, none⟩)], .int .i64 (key 2 x), .int .i64 (atW b x), undef, undef, undef, undef, undef, undef, undef, undef, undef, undef, undef, undef, undef, undef, undef, undef, undef, undef, undef, undef, undef, undef], []⟩) ?bax ?assign ?body ?done ?stop
    case bi =>
      rintro pre A B ⟨h1, h2, h3⟩ ht
      exact ⟨h1, h2.turn (by omega) (by omega) hw6.size ht (fun k o h => h.1), ht.block _ _ h3 (fun h => by have := h.1; have := hw6.size; omega)⟩
    case bx => exact fun _ _ _ _ h _ => h
    case h0 => exact ⟨⟨_, rfl⟩, HSI.out, HBX.out⟩
    case bax =>
      rintro pre x a' s A B ⟨h1, ⟨h2, h4⟩, h3⟩ ht
      exact ⟨h1, ⟨h2.turn (by omega) (by omega) hw6.size ht (fun k o h => h.1), ht.block _ _ h4 (fun h => by have := h.1; have := hw6.size; omega)⟩, h3⟩
    case assign =>
      rintro lo pre x W K2 ⟨_, hI⟩ htl hK
      have HKK := Lib.hid (hK _ _ (TurnsK.refl _ _) ⟨htl, hI, rfl⟩)
      clear hK hI htl
      dsimp only [encZ]
      gi_wp2
      exact HKK.out
    case body =>
      rintro lo pre x a' W ⟨⟨s, htl⟩, ⟨hI, hbx⟩, rfl⟩
      have hxm : x ∈ b.ss := (ofAcc_mem (j := 0) (a := acc) (by rw [← htl]; simp)).1
      have q64 := key_in HK.out.ss hxm 2
      have r64 := at_in HM.out HK.out x
      have hz := ex_sum HK.out htl
      rw [sumI_snoc, ← exW_at HM.out x] at hz
      have hin : In192 (sumI (exW b) pre + key 2 x * atW b x) := (fine_of (by omega)).in
      have HAD := Lib.hid (addMul17 w1.heap.size _ _ _ W hI.num q64 r64 hin)
      have HZ := Lib.hid (show sumI (exW b) (pre ++ [x]) = sumI (exW b) pre + key 2 x * atW b x by rw [sumI_snoc, exW_at HM.out x])
      have HIN := Lib.hid hI
      have HBB := Lib.hid hbx
      have HTL := Lib.hid htl
      have cp := hI.add.cell
      clear hI htl hxm q64 r64 hz hin hbx
      generalize key 2 x = q2 at *
      generalize atW b x = rt at *
      gi_wp2_with (refine ⟨trivial, ?_⟩; gi_at_call 23; refine (callsIn_wide.2 HAD.out).mono ?_; rintro e w8 ⟨rfl, hn8, hg8⟩; have HT8 := Lib.hid (RSum.of HIN.out.num hg8); have HS8 := Lib.hid (HIN.out.added hn8 hg8 (by omega) (by omega)); have HB8 := Lib.hid ((hg8.block _ (blk_ltK HBB.out) (by simp; omega)).trans HBB.out); clear hn8 hg8)
      exact ⟨HT8.out, ⟨s, HTL.out⟩, by rw [HZ.out]; exact HS8.out, HB8.out⟩
    case stop =>
      rintro D c pre W hD h hK
      exact h.elim
    case done =>
      rintro D xs W hD hf ⟨_, hI, hbx⟩ hK
      rw [hf] at hI
      have hfz := ex_sum (b := b) HK.out (a := acc) (pre := ofAcc 0 acc b.ss) (s := []) (by rw [List.append_nil])
      obtain ⟨z1, hz1⟩ : ∃ x, sumI (exW b) (ofAcc 0 acc b.ss) = x := ⟨_, rfl⟩
      rw [hz1] at hI hfz HEX
      have HIN := Lib.hid hI
      have HKD := Lib.hid hK
      have HDD := Lib.hid hD
      have HFZ := Lib.hid hfz
      have hld := load_book hbx
      rw [HCA.out] at hld
      have HLD := Lib.hid hld
      clear hI hf hK hD hz1 hfz hld hbx
      gi_wp2_with (first
        | ((with_reducible refine atLoadIn (ty := 27) (x := .tmp 5) rfl ?_); refine loadEIn (wanted_noneD rfl) (fun _ _ => trivial) 27 (.tmp 5) rfl _ (.agg CA) rfl HLD.out ?_)
        | (refine ⟨trivial, ?_⟩; gi_at_call 27; refine (callsIn_wide.2 (HOR.out _)).mono ?_; rintro e w7 ⟨rfl, hw7⟩; have HW7 := Lib.hid hw7; clear hw7))
      have y0 : w7.heap[W.heap.size]? = some (.cells CA 27 (0, 0)) := by rw [HW7.out]; exact two_new.1
      have y1 : w7.heap[W.heap.size + 1]? = some (.cells #[.int .i64 acc] 2 (0, 0)) := by rw [HW7.out]; exact two_new.2
      have hb7 : Below W.heap.size W w7 := by rw [HW7.out]; exact ((Below.refl _ _).alloc (Nat.le_refl _) _).alloc (by simp) _
      have hs7 : w7.heap.size = W.heap.size + 2 := by rw [HW7.out]; simp
      have hsz := HIN.out.sz
      have hww := hw6.size
      have hd6 := HDD.out
      have hI7 := HIN.out.below hb7
      have HI7 := Lib.hid (show SumI w7.heap.size w1.heap.size (w1.heap.size + 1) 57 (.func (.func 23) #[.pointer (some ⟨w1.heap.size, 0, none⟩)] #[]) w z1 w7 from ⟨hI7.num, hI7.add, hI7.lo, Nat.le_refl _⟩)
      have hDl : D < W.heap.size := blk_ltK HKD.out
      have HK7 := Lib.hid ((hb7.block D hDl).trans HKD.out)
      have HS2 := Lib.hid (orders_seq (RSum w1.heap.size) w v b HBI.out HK.out acc W.heap.size (W.heap.size + 1) w7 hI7.lo (by unfold BoxB; rw [HCA.out]; exact y0) y1 (fun k o h => by rw [h.1]; omega) ((RSum.no _).sub (by simp)))
      clear y0 y1 hI7 HSQ HSI HBX HW7 HLD
      refine range_kinds (gf := 53) (lb := #[.pointer (some ⟨W.heap.size, 0, none⟩), .pointer (some ⟨W.heap.size + 1, 0, none⟩)]) (w := w7) rfl (enters_of Try.func53 (by kernel_rfl) rfl) HS2.out (fun _ _ h => .inl h.cells) (Below.refl _ _) (fun _ => rfl)
        (fun pre W => (∃ s, pre ++ s = ofAcc 1 acc b.os) ∧ SumI w7.heap.size w1.heap.size (w1.heap.size + 1) 57 (.func (.func 23) #[.pointer (some ⟨w1.heap.size, 0, none⟩)] #[]) w (z1 + sumI ordW pre) W ∧ W.heap[D]? = some (.deferred (some []))) (fun _ _ _ => False) ?bi ?bx ?h0
        (fun pre x a' V => (∃ s, pre ++ [x] ++ s = ofAcc 1 acc b.os) ∧ (SumI w7.heap.size w1.heap.size (w1.heap.size + 1) 57 (.func (.func 23) #[.pointer (some ⟨w1.heap.size, 0, none⟩)] #[]) w (z1 + sumI ordW pre) V ∧ V.heap[D]? = some (.deferred (some []))) ∧ ∃ b0 u, aggI x = .agg u ∧ V.heap[b0]? = some (.cells u 37 (0, 0)) ∧ w7.heap.size ≤ b0 ∧ a' = ⟨#[.agg CA, .int .i64 acc, .int .i64 q, .int .i64 pc, .int .i64 r, .pointer (some ⟨w.heap.size, 0, none⟩), undef, undef, undef, undef, .int .i64 0, .bool false, .pointer (some ⟨w1.heap.size, 0, none⟩), .pointer (some ⟨w1.heap.size + 1, 0, none⟩), undef, undef, .pointer (some ⟨b0, 0, none⟩), .agg CA, .bool true, .bool false, .func (.func 23) #[.pointer (some ⟨w1.heap.size, 0, none⟩)] #[], .agg CA, .int .i64 acc, .func (.func 52) #[] #[.pointer (some ⟨w1.heap.size + 1 + 1, 0, none⟩), .pointer (some ⟨w1.heap.size + 1 + 1 + 1, 0, none⟩)], undef, undef, undef, undef, undef, undef, .agg CA, .int .i64 acc, .func (.func 53) #[] #[.pointer (some ⟨W.heap.size, 0, none⟩), .pointer (some ⟨W.heap.size + 1, 0, none⟩)], aggI x, undef, undef, undef, undef, undef, undef, undef, undef, undef, undef, undef, undef, undef, undef], []⟩) ?bax ?assign ?body ?done ?stop
      case bi =>
        rintro pre A B ⟨h1, h2, h3⟩ ht
        exact ⟨h1, h2.turn (by omega) (by omega) (by omega) ht (fun k o h => h.1), ht.block _ _ h3 (fun h => by have := h.1; omega)⟩
      case bx => exact fun _ _ _ _ h _ => h
      case h0 => exact ⟨⟨_, rfl⟩, by show SumI _ _ _ _ _ _ (z1 + 0) _; rw [Int.add_zero]; exact HI7.out, HK7.out⟩
      case bax =>
        rintro pre x a' s A B ⟨h1, ⟨h2, h3⟩, b0, u, h4, h5, h6, h7⟩ ht
        exact ⟨h1, ⟨h2.turn (by omega) (by omega) (by omega) ht (fun k o h => h.1), ht.block _ _ h3 (fun h => by have := h.1; omega)⟩, b0, u, h4, ht.block _ _ h5 (fun h => by have := h.2; cases this), h6, h7⟩
      case assign =>
        rintro lo pre x V K2 ⟨_, hI, hk3⟩ htl hK
        obtain ⟨s, htl⟩ := htl
        obtain ⟨_, s0, s1, s2, s3, s4, s5, rfl⟩ := order_of HK.out htl
        have hbl := (Below.refl _ V).alloc (Nat.le_refl _) (.cells #[.int .i64 s0, .int .i64 s1, .int .i64 s2, .int .i64 s3, .int .i64 s4, .int .i64 s5] 37)
        have HKK := Lib.hid (hK _ _ (TurnsK.below hbl) ⟨⟨s, htl⟩, ⟨hI.below hbl, (hbl.block _ (blk_ltK hk3)).trans hk3⟩, V.heap.size, #[.int .i64 s0, .int .i64 s1, .int .i64 s2, .int .i64 s3, .int .i64 s4, .int .i64 s5], rfl, heap_alloc_new V _, hI.sz, rfl⟩)
        clear hK hI htl hk3 hbl
        rw [ord_agg]
        gi_wp2
        exact HKK.out
      case body =>
        rintro lo pre x a' V ⟨⟨s, htl⟩, ⟨hI, hk3⟩, b0, u, h4, h5, h6, rfl⟩
        obtain ⟨hxm, s0, s1, s2, s3, s4, s5, rfl⟩ := order_of HK.out htl
        have q64 : In64' s4 := key_in HK.out.os hxm 4
        have r64 : In64' s5 := key_in HK.out.os hxm 5
        have hz := ord_sum HK.out htl
        rw [sumI_snoc, show ordW [s0, s1, s2, s3, s4, s5] = s4 * s5 from rfl] at hz
        have hin : In192 ((z1 + sumI ordW pre) + s4 * s5) := (fine_of (by have := HFZ.out; omega)).in
        have HAD := Lib.hid (addMul17 w1.heap.size _ _ _ V hI.num q64 r64 hin)
        have HZ := Lib.hid (show z1 + sumI ordW (pre ++ [[s0, s1, s2, s3, s4, s5]]) = (z1 + sumI ordW pre) + s4 * s5 by rw [sumI_snoc]; show _ + (_ + s4 * s5) = _; omega)
        have HIV := Lib.hid hI
        have HK3 := Lib.hid hk3
        have HTL := Lib.hid htl
        have cp := hI.add.cell
        have hu : u = #[.int .i64 s0, .int .i64 s1, .int .i64 s2, .int .i64 s3, .int .i64 s4, .int .i64 s5] := by
          have : Value.agg u = .agg #[.int .i64 s0, .int .i64 s1, .int .i64 s2, .int .i64 s3, .int .i64 s4, .int .i64 s5] := h4.symm
          simpa using this
        subst hu
        have c4 : V.cell? ⟨b0, 4, none⟩ = some (.int .i64 s4) := by rw [cell_of_row _ _ _ _ _ _ h5]; rfl
        have c5 : V.cell? ⟨b0, 5, none⟩ = some (.int .i64 s5) := by rw [cell_of_row _ _ _ _ _ _ h5]; rfl
        clear hI htl hxm q64 r64 hz hin hk3 h4 h5
        gi_wp2_with (refine ⟨trivial, ?_⟩; gi_at_call 23; refine (callsIn_wide.2 HAD.out).mono ?_; rintro e w8 ⟨rfl, hn8, hg8⟩; have HT8 := Lib.hid (RSum.of HIV.out.num hg8); have HS8 := Lib.hid (HIV.out.added hn8 hg8 (by omega) (by omega)); have HB8 := Lib.hid ((hg8.block _ (blk_ltK HK3.out) (by simp; omega)).trans HK3.out); clear hn8 hg8)
        exact ⟨HT8.out, ⟨s, HTL.out⟩, by rw [HZ.out]; exact HS8.out, HB8.out⟩
      case stop =>
        rintro D2 c pre V hD h hK
        exact h.elim
      case done =>
        rintro D2 ys V hD2 hf ⟨_, hI, hk3⟩ hK2
        rw [hf] at hI
        have hfy := ord_sum (b := b) HK.out (a := acc) (pre := ofAcc 1 acc b.os) (s := []) (by rw [List.append_nil])
        have hqp := prod_nat HQ.out HPC.out
        have hfin : Fine (exT b acc q pc) := by rw [HEX.out]; have := HFZ.out; exact fine_of (by omega)
        have HAD := Lib.hid (addMul17 w1.heap.size _ _ _ V hI.num HQ.out HPC.out (by rw [← HEX.out]; exact hfin.in))
        rw [← HEX.out] at HAD
        have HSH := Lib.hid (fun W (h : NumAt W w1.heap.size 54 (exT b acc q pc)) => share19 w1.heap.size _ r W h HR.out (share_fine hfin))
        have HIV := Lib.hid hI
        have HK3 := Lib.hid hk3
        have HKD2 := Lib.hid hK2
        have hD2l : D2 < V.heap.size := blk_ltK hK2
        have cp := hI.add.cell
        obtain ⟨ra, hra⟩ : ∃ x, (if mayB (exT b acc q pc) r then fitV (shr (exT b acc q pc) r) else 0) = x := ⟨_, rfl⟩
        obtain ⟨rb, hrb⟩ : ∃ x, (mayB (exT b acc q pc) r && fitB (shr (exT b acc q pc) r)) = x := ⟨_, rfl⟩
        rw [hra, hrb] at HFE HSH
        generalize exT b acc q pc = z at *
        clear hI hf hk3 hK2 hfy hqp hfin hra hrb
        gi_wp2_with (first
          | (refine ⟨trivial, ?_⟩; gi_at_call 23; refine (callsIn_wide.2 HAD.out).mono ?_; rintro e w8 ⟨rfl, hn8, hg8⟩; have HS8 := Lib.hid (HIV.out.added hn8 hg8 (by omega) (by omega)); have HB8 := Lib.hid ((hg8.block _ (blk_ltK HK3.out) (by simp; omega)).trans HK3.out); have HC8 := Lib.hid ((hg8.block _ (blk_ltK HKD2.out) (by simp; omega)).trans HKD2.out); clear hn8 hg8)
          | (refine ⟨trivial, ?_⟩; gi_at_call 28; refine (callsIn_wide.2 (HSH.out _ HS8.out.num)).mono ?_; rintro e w9 ⟨rfl, hb9⟩; have HS9 := Lib.hid (HS8.out.below hb9); have HB9 := Lib.hid ((hb9.block _ (blk_ltK HB8.out)).trans HB8.out); have HC9 := Lib.hid ((hb9.block _ (blk_ltK HC8.out)).trans HC8.out); clear hb9))
        have hdd : D ≠ D2 := by omega
        have hk9 : (w9.putObj D2 (.deferred none)).heap[D]? = some (.deferred (some [])) := (World.putObj_heap_other (by omega)).trans HB9.out
        have hl9 : Below w.heap.size w (w9.putObj D2 (.deferred none)) := HS9.out.lo.trans (((TurnsK.refl (fun k o => k = D2 ∧ o.isCells = false) w9).putObj HC9.out ⟨rfl, rfl⟩ _).lo HS9.out.lo.size (fun k o hk h => by have := h.1; omega))
        refine ⟨by simp, .inl ⟨_, _, rfl, run_takeDeferred HC9.out, ?_⟩⟩
        refine ⟨by simp, .inl ⟨_, _, rfl, run_takeDeferred hk9, ?_⟩⟩
        exact ⟨_, results_tmp2 (t := 10) (u := 11) rfl _ _ _, HFE.out, hl9.trans (((TurnsK.refl (fun k o => k = D ∧ o.isCells = false) _).putObj hk9 ⟨rfl, rfl⟩ _).lo hl9.size (fun k o hk h => by have := h.1; omega))⟩
end Go.Proofs.Ytmndkbfjmamnfaa
