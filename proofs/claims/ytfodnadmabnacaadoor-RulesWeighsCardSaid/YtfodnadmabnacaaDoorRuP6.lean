/- The program's Weigh: the contract. -/
import Derived.Test.YtfodnadmabnacaaDoorRuP5
namespace Go.Proofs.YtfodnadmabnacaaDoor
open Go.RowKit Base Base2

theorem weigh_no {s : StepT} (l : List StepT) (n : Int) (h : holdS s = false) : weighS (s :: l) n = (if s.o then 12 else (rowT s.r).2.2, 0) := by
  cases ho : s.o with
  | true => rw [weigh_over _ _ ho]; rfl
  | false => rw [weigh_not _ _ ho h]; rfl
theorem weigh_yes {s : StepT} (l : List StepT) (n : Int) (h : holdS s = true) : weighS (s :: l) n = weighS l (if s.r = 20 then s.x else n) := by
  cases ho : s.o with
  | true => rw [hold_over ho] at h; cases h
  | false => exact weigh_holds _ _ ho h
set_option maxRecDepth 100000 in
set_option maxHeartbeats 8000000 in
theorem against23 (s : StepT) (w : World) (hK : KAll w) (hs : StepOk s) : Calls Tryd.prog 23 #[.agg #[.int .i64 s.r, .int .i64 s.x, .int .i64 s.y, .bool s.o]] w fun e w' => e = .returned (.int .i64 (if s.o then 12 else (rowT s.r).2.2)) ∧ Below w.heap.size w w' := by
  obtain ⟨r, x, y, ov⟩ := s
  obtain ⟨W1, hW1⟩ : ∃ z, w.alloc (.cells #[.int .i64 r, .int .i64 x, .int .i64 y, .bool ov] 23) = z := ⟨_, rfl⟩
  have hb : Below w.heap.size w W1 := by rw [← hW1]; exact (Below.refl _ w).alloc (Nat.le_refl _) _
  have hx : W1.heap[w.heap.size]? = some (.cells #[.int .i64 r, .int .i64 x, .int .i64 y, .bool ov] 23 (0, 0)) := by rw [← hW1]; exact heap_alloc_new w _
  have HB := Lib.hid hb
  have HW := Lib.hid hW1
  have HCD := Lib.hid (code9 r W1 (k_keep _ _ hK hb) hs.1)
  obtain ⟨k0, k1, k2, k3⟩ := cells4S hx
  clear hb hx hW1 hK hs
  dsimp only at HCD ⊢
  generalize (rowT r).2.2 = cd at *
  cases ov with
  | true =>
    go_enter Tryd.func23, Tryd.ntmps23
    go_upto_region 1 with (fail)
    refine at_world (Φ := fun W => W = W1) HW.out ?_
    rintro W rfl
    go_wp2
    go_ret
    exact ⟨rfl, HB.out⟩
  | false =>
    go_enter Tryd.func23, Tryd.ntmps23
    go_upto_region 1 with (fail)
    refine at_world (Φ := fun W => W = W1) HW.out ?_
    rintro W rfl
    go_wp2_with (go_at_call 9; refine HCD.out.mono ?_; rintro e w2 ⟨rfl, hb2⟩; have HB2 := Lib.hid hb2; clear hb2)
    go_ret
    exact ⟨rfl, HB.out.trans (HB2.out.mono HB.out.size)⟩
set_option maxRecDepth 100000 in
set_option maxHeartbeats 8000000 in
theorem weigh15 (a : Option Addr) (c : Nat) (l : List StepT) (w : World) (hK : KAll w) (hr : StepsAt w a l) (hl : l.length ≤ 60) (hcp : l.length ≤ c) (hok : ∀ s ∈ l, StepOk s) :
    Calls Tryd.prog 15 #[.slice a l.length c] w fun e w' => e = .returned (if maySteps l then .tuple #[.agg #[.int .i64 (weighS l 0).1, .int .i64 (weighS l 0).2], .int .i64 0] else .tuple #[.agg #[.int .i64 0, .int .i64 0], .int .i64 3]) ∧ Below w.heap.size w w' := by
  obtain ⟨n, hn⟩ : ∃ n, l.length = n := ⟨_, rfl⟩
  have HN := Lib.hid hn
  have HR := Lib.hid hr
  have HKW := Lib.hid (fun W (h : Below w.heap.size w W) => k_keep _ _ hK h)
  have HOKS := Lib.hid hok
  obtain ⟨W0, hW0⟩ : ∃ z, w.alloc (.cells #[.int .i64 0, .int .i64 0] 35) = z := ⟨_, rfl⟩
  have hb0 : Below w.heap.size w W0 := by rw [← hW0]; exact (Below.refl _ _).alloc (Nat.le_refl _) _
  have hx0 : W0.heap[w.heap.size]? = some (.cells #[.int .i64 0, .int .i64 0] 35 (0, 0)) := by rw [← hW0]; exact heap_alloc_new w _
  have HB0 := Lib.hid hb0
  have HX0 := Lib.hid (fun W (h : Below W0.heap.size W0 W) => show W.heap[w.heap.size]? = some (.cells #[.int .i64 0, .int .i64 0] 35 (0, 0)) from (h.block _ (blk_ltR hx0)).trans hx0)
  have HMY := Lib.hid (may16 a c l W0 (HKW.out _ hb0) (hr.below hb0) hl hcp hok)
  have HW := Lib.hid hW0
  obtain ⟨R, hR⟩ : ∃ R, weighS l 0 = R := ⟨_, rfl⟩
  have HR0 := Lib.hid hR
  rw [hn] at hl hcp HMY ⊢
  rw [hR]
  clear hr hn hok hK hb0 hx0 hW0 hR
  cases hM : maySteps l with
  | false =>
    rw [hM] at HMY
    rw [if_neg (by simp)]
    go_enter Tryd.func15, Tryd.ntmps15
    go_upto_region 1 with (fail)
    refine at_world (Φ := fun W => W = W0) HW.out ?_
    rintro W rfl
    go_wp2_with (first
      | (go_at_call 16; refine HMY.out.mono ?_; rintro e w1 ⟨rfl, hb1⟩; have HB1 := Lib.hid hb1; have HXB := Lib.hid (HX0.out _ hb1); clear hb1)
      | (refine wpList_store_row rfl 35 (.tmp 2) (.tmp 10) rfl w.heap.size #[.int .i64 0, .int .i64 0] rfl rfl 35 #[.int .i64 0, .int .i64 0] HXB.out infoVd rfl (by simp [Value.oneCell']) ?_))
    refine ret_cell_tmp rfl rfl rfl rfl (setRow_heap _ _ _ _ 35 (0, 0) HXB.out) Tryd.underlying35 rfl infoVd ⟨rfl, below_rowB (HB0.out.trans (HB1.out.mono HB0.out.size)) (Nat.le_refl _)⟩
  | true =>
    rw [hM] at HMY
    rw [if_pos rfl]
    go_enter Tryd.func15, Tryd.ntmps15
    go_upto_region 1 with (fail)
    refine at_world (Φ := fun W => W = W0) HW.out ?_
    rintro W rfl
    go_upto_region 4 with (go_at_call 16; refine HMY.out.mono ?_; rintro e w1 ⟨rfl, hb1⟩; have HB1 := Lib.hid hb1; clear hb1)
    obtain ⟨W2, hW2⟩ : ∃ z, w1.alloc (.cells #[.int .i64 0, .int .i64 0] 35) = z := ⟨_, rfl⟩
    have hb2 : Below w1.heap.size w1 W2 := by rw [← hW2]; exact (Below.refl _ _).alloc (Nat.le_refl _) _
    have HZ2 := Lib.hid (show W2.heap[w1.heap.size]? = some (.cells #[.int .i64 0, .int .i64 0] 35 (0, 0)) by rw [← hW2]; exact heap_alloc_new w1 _)
    have HB2 := Lib.hid hb2
    have HLW := Lib.hid (fun W (h : Below w1.heap.size w1 W) => show Below w.heap.size w W from HB0.out.trans ((HB1.out.trans (h.mono HB1.out.size)).mono HB0.out.size))
    have HX1 := Lib.hid (fun W (h : Below w1.heap.size w1 W) => HX0.out W (HB1.out.trans (h.mono HB1.out.size)))
    rw [hW2]
    clear hb2 hW2 HMY HX0
    go_wp2
    go_loopw [14] (fun vi W => ∃ (i : Nat) (nd : Int), vi = .int .i64 (i : Int) ∧ i ≤ n ∧ weighS (l.drop i) nd = R ∧ Below w1.heap.size w1 W ∧ W.heap[w1.heap.size]? = some (.cells #[.int .i64 0, .int .i64 nd] 35 (0, 0))) (fun vi _ => n - (intOf vi).toNat)
    case atStart => exact ⟨0, 0, rfl, Nat.zero_le _, HR0.out, HB2.out, HZ2.out⟩
    case round =>
      obtain ⟨i, nd, rfl, hi, hwe, hlo, hz⟩ := hrel
      have HLO := Lib.hid hlo
      have HWE := Lib.hid hwe
      have HZR := Lib.hid hz
      clear hlo hwe hz HZ2 HB2
      by_cases hlt : i < n
      · obtain ⟨s, hx⟩ : ∃ s, l[i]? = some s := ⟨l[i]'(by rw [HN.out]; exact hlt), by simp [HN.out, hlt]⟩
        have HSO := Lib.hid (HOKS.out s (List.mem_of_getElem? hx))
        obtain ⟨b0, off, rfl, hcs⟩ := HR.out.at hx
        obtain ⟨k0, k1, k2, k3⟩ := hcs i s hx wr (HLW.out _ HLO.out)
        rw [weigh_drop hx] at HWE
        clear hcs hx
        have HWY := Lib.hid (weigh_yes (s := s) (l.drop (i + 1)) nd)
        have HWN := Lib.hid (weigh_no (s := s) (l.drop (i + 1)) nd)
        obtain ⟨r, x, y, ov⟩ := s
        dsimp only at k0 k1 k2 k3 HWY HWN
        go_upto_region 7 with (fail)
        obtain ⟨w4, hw4⟩ : ∃ z, wr.alloc (.cells #[.int .i64 r, .int .i64 x, .int .i64 y, .bool ov] 23) = z := ⟨_, rfl⟩
        have hb4 : Below wr.heap.size wr w4 := by rw [← hw4]; exact (Below.refl _ _).alloc (Nat.le_refl _) _
        have hz4 : w4.heap[wr.heap.size]? = some (.cells #[.int .i64 r, .int .i64 x, .int .i64 y, .bool ov] 23 (0, 0)) := by rw [← hw4]; exact heap_alloc_new wr _
        have HL4 := Lib.hid (HLO.out.trans (hb4.mono HLO.out.size))
        have HV4 := Lib.hid ((hb4.block _ (blk_ltR HZR.out)).trans HZR.out)
        have HC4 := Lib.hid (fun W (h : Below w4.heap.size w4 W) => cells4S ((h.block _ (blk_ltR hz4)).trans hz4))
        obtain ⟨q0, q1, q2, q3⟩ := cells4S hz4
        have HHS := Lib.hid (holds11 ⟨r, x, y, ov⟩ w4 (HKW.out _ (HLW.out _ HL4.out)) HSO.out)
        have HAG := Lib.hid (fun W (h : Below w4.heap.size w4 W) => against23 ⟨r, x, y, ov⟩ W (HKW.out _ (HLW.out _ (HL4.out.trans (h.mono HL4.out.size)))) HSO.out)
        rw [hw4]
        dsimp only at HHS HAG
        clear hw4 hb4 hz4 k0 k1 k2 k3
        cases hh : holdS ⟨r, x, y, ov⟩ with
        | false =>
          rw [hh] at HHS
          have hwn := HWE.out.symm.trans (HWN.out hh)
          generalize (if ov = true then (12 : Int) else (rowT r).2.2) = cd at *
          have HM := Lib.hid hwn
          clear hh hwn HWN HWY HWE
          go_wp2_with (first
            | (go_at_call 11; refine HHS.out.mono ?_; rintro e w5 ⟨rfl, hb5⟩; have HB5 := Lib.hid hb5; obtain ⟨m0, m1, m2, m3⟩ := HC4.out _ hb5; clear hb5)
            | (go_at_call 23; refine (HAG.out _ HB5.out).mono ?_; rintro e w6 ⟨rfl, hb6⟩; have HB6 := Lib.hid (HL4.out.trans ((HB5.out.trans (hb6.mono HB5.out.size)).mono HL4.out.size)); have HXB := Lib.hid (HX1.out _ HB6.out); clear hb6)
            | (refine wpList_store_row rfl 35 (.tmp 2) (.tmp 23) rfl w.heap.size #[.int .i64 cd, .int .i64 0] rfl rfl 35 #[.int .i64 0, .int .i64 0] HXB.out infoVd rfl (by simp [Value.oneCell']) ?_))
          refine ret_cell_tmp rfl rfl rfl rfl (setRow_heap _ _ _ _ 35 (0, 0) HXB.out) Tryd.underlying35 rfl infoVd ⟨by rw [HM.out]; rfl, below_rowB (HLW.out _ HB6.out) (Nat.le_refl _)⟩
        | true =>
          rw [hh] at HHS
          have hwy := (HWY.out hh).symm.trans HWE.out
          have HM := Lib.hid hwy
          clear hh hwy HWN HWY HWE HAG
          go_upto_region 9 with (go_at_call 11; refine HHS.out.mono ?_; rintro e w5 ⟨rfl, hb5⟩; have HB5 := Lib.hid hb5; clear hb5)
          obtain ⟨m0, m1, m2, m3⟩ := HC4.out w5 HB5.out
          have HL5 := Lib.hid (HL4.out.trans (HB5.out.mono HL4.out.size))
          have HV5 := Lib.hid ((HB5.out.block _ (blk_ltR HV4.out)).trans HV4.out)
          have v1 : w5.cell? ⟨w1.heap.size, 1, none⟩ = some (.int .i64 nd) := by rw [cell_of_row _ _ _ _ _ _ HV5.out]; rfl
          have v2 := free_of_blkN HV5.out 1
          by_cases h20 : r = 20
          · subst h20
            rw [if_pos rfl] at HM
            go_wp2
            go_roundw
            case rel => exact ⟨i + 1, x, by go_num, hlt, HM.out, HL5.out.setCell (p := ⟨w1.heap.size, 1, none⟩) (Nat.le_refl _) _, (set_blkN HV5.out 1 (.int .i64 x)).trans rfl⟩
            case measure => simp [intOf]; omega
          · rw [if_neg h20] at HM
            have g : (r == 20) = false := by rw [beq_eq_false_iff_ne]; exact h20
            clear h20
            go_wp2
            go_roundw
            case rel => exact ⟨i + 1, nd, by go_num, hlt, HM.out, HL5.out, HV5.out⟩
            case measure => simp [intOf]; omega
      · rw [List.drop_of_length_le (by rw [HN.out]; omega)] at HWE
        have HM := Lib.hid (show R = (0, nd) from HWE.out.symm)
        have HXB := Lib.hid (HX1.out _ HLO.out)
        have v0 : wr.cell? ⟨w1.heap.size, 0, none⟩ = some (.int .i64 0) := by rw [cell_of_row _ _ _ _ _ _ HZR.out]; rfl
        have v1 : wr.cell? ⟨w1.heap.size, 1, none⟩ = some (.int .i64 nd) := by rw [cell_of_row _ _ _ _ _ _ HZR.out]; rfl
        go_wp2_with (refine wpList_store_row rfl 35 (.tmp 2) (.tmp 31) rfl w.heap.size #[.int .i64 0, .int .i64 nd] rfl rfl 35 #[.int .i64 0, .int .i64 0] HXB.out infoVd rfl (by simp [Value.oneCell']) ?_)
        refine ret_cell_tmp rfl rfl rfl rfl (setRow_heap _ _ _ _ 35 (0, 0) HXB.out) Tryd.underlying35 rfl infoVd ⟨by rw [HM.out]; rfl, below_rowB (HLW.out _ HLO.out) (Nat.le_refl _)⟩
end Go.Proofs.YtfodnadmabnacaaDoor
