/- The document's May: its contract. -/
import Derived.Test.YtmndkbfjmamnfaaBkSet
namespace Go.Proofs.Ytmndkbfjmamnfaa
open Go.RowKit Base Base2

set_option maxRecDepth 100000 in
set_option maxHeartbeats 8000000 in
theorem may10 (v : Slots) (b : BookT) (w : World) (hb : BookIn w v b) (hk : BookOk 2000 b) :
    Calls Try.prog 11 #[.agg (cellsB v b)] w fun e w' => e = .returned (.bool (mayT b)) ∧ Below w.heap.size w w' := by
  have hbox := BoxB.new w v b
  have hlo : Below w.heap.size w (w.alloc (.cells (cellsB v b) 27)) := (Below.refl _ w).alloc (Nat.le_refl _) _
  obtain ⟨W0, hW0⟩ : ∃ W, w.alloc (.cells (cellsB v b) 27) = W := ⟨_, rfl⟩
  rw [hW0] at hbox hlo
  have hsz : W0.heap.size = w.heap.size + 1 := by rw [← hW0]; simp
  have HX := Lib.hid (show ∀ W, Below (w.heap.size + 1) W0 W → W.heap[w.heap.size]? = some (.cells #[.slice v.h b.hs.length v.ch, .slice v.s b.ss.length v.cs, .slice v.o b.os.length v.co, .slice v.r b.rs.length v.cr, .int .i64 b.co] 27 (0, 0)) from fun W h => hbox.below h (by omega))
  have HC := Lib.hid (show ∀ W, Below (w.heap.size + 1) W0 W → (W.cell? ⟨w.heap.size, 0, none⟩ = some (.slice v.h b.hs.length v.ch) ∧ W.cell? ⟨w.heap.size, 1, none⟩ = some (.slice v.s b.ss.length v.cs) ∧ W.cell? ⟨w.heap.size, 2, none⟩ = some (.slice v.o b.os.length v.co) ∧ W.cell? ⟨w.heap.size, 3, none⟩ = some (.slice v.r b.rs.length v.cr) ∧ W.cell? ⟨w.heap.size, 4, none⟩ = some (.int .i64 b.co)) from fun W h => (hbox.below h (by omega)).cells)
  have HLO := Lib.hid (show ∀ W, Below (w.heap.size + 1) W0 W → Below w.heap.size w W from fun W h => hlo.trans (h.mono (by omega)))
  have HB0 := Lib.hid (show Below (w.heap.size + 1) W0 W0 from Below.refl _ _)
  have HSZ := Lib.hid (show w.heap.size + 1 ≤ W0.heap.size by omega)
  have HRI := Lib.hid (show ∀ W, Below (w.heap.size + 1) W0 W → Calls Try.prog 29 #[.agg #[.slice v.h b.hs.length v.ch, .slice v.s b.ss.length v.cs, .slice v.o b.os.length v.co, .slice v.r b.rs.length v.cr, .int .i64 b.co]] W fun e w' => e = .returned (.bool (riseT b)) ∧ Below W.heap.size W w' from fun W h => rise14 v b W (hb.below (hlo.trans (h.mono (by omega)))) hk)
  have HTH := Lib.hid (show ∀ (a s : Int) W, Below (w.heap.size + 1) W0 W → Calls Try.prog 30 #[.agg #[.slice v.h b.hs.length v.ch, .slice v.s b.ss.length v.cs, .slice v.o b.os.length v.co, .slice v.r b.rs.length v.cr, .int .i64 b.co], .int .i64 a, .int .i64 s] W fun e w' => e = .returned (.bool (thereT b a s)) ∧ Below W.heap.size W w' from fun a s W h => there31 v b a s W (hb.below (hlo.trans (h.mono (by omega)))) hk)
  have HM := Lib.hid (show mayT b = (riseT b && (decide (b.hs.length ≤ 32) && decide (b.os.length ≤ 64) && decide (b.rs.length ≤ 32) && decide (0 ≤ b.co) && decide (b.co ≤ 1099511627776)) && b.hs.all holdT && b.rs.all rateT && b.ss.all (stakeT b) && b.os.all (openT b)) from rfl)
  have HROWhs := Lib.hid hb.hs
  have HROWss := Lib.hid hb.ss
  have HROWos := Lib.hid hb.os
  have HROWrs := Lib.hid hb.rs
  have lenhs := hk.hs.1
  have lenss := hk.ss.1
  have lenos := hk.os.1
  have lenrs := hk.rs.1
  have HKhs := Lib.hid hk.hs.2
  have HKss := Lib.hid hk.ss.2
  have HKos := Lib.hid hk.os.2
  have HKrs := Lib.hid hk.rs.2
  unfold cellsB at hW0 ⊢
  generalize mayT b = RM at *
  clear hb hk hbox hlo hsz
  generalize b.hs = Lhs at *
  generalize b.ss = Lss at *
  generalize b.os = Los at *
  generalize b.rs = Lrs at *
  generalize b.co = n4 at *
  generalize v.h = ahs at *
  generalize v.s = ass at *
  generalize v.o = aos at *
  generalize v.r = ars at *
  generalize v.ch = chs at *
  generalize v.cs = css at *
  generalize v.co = cos at *
  generalize v.cr = crs at *

  cases hr : riseT b with
  | false =>
    rw [hr] at HRI HM
    clear hr
    go_enter Try.func11, Try.ntmps11
    go_wp2_with (first | ((with_reducible refine atLoad (ty := 27) (x := .tmp 1) rfl ?_); refine wpList_load_row rfl 27 (.tmp 1) rfl w.heap.size rfl 27 #[.slice ahs Lhs.length chs, .slice ass Lss.length css, .slice aos Los.length cos, .slice ars Lrs.length crs, .int .i64 n4] (0, 0) _ (HX.out _ HB0.out) Try.underlying27 rfl info27 ?_) | (go_at_call 29; refine (HRI.out _ HB0.out).mono ?_; rintro e w1 ⟨rfl, hb1⟩; have HB1 := Lib.hid (HB0.out.trans (hb1.mono HSZ.out)); obtain ⟨c0, c1, c2, c3, c4⟩ := HC.out _ HB1.out; clear hb1))
    go_ret
    exact ⟨ret_bool (by rw [HM.out]; simp), HLO.out _ HB1.out⟩
  | true =>
    rw [hr] at HRI HM
    clear hr
    by_cases q0 : 32 < Lhs.length
    case pos =>
      have g0 : (32 : Int) < (Lhs.length : Int) := by omega
      have HD := Lib.hid (show decide (Lhs.length ≤ 32) = false by rw [decide_eq_false_iff_not]; omega)
      clear q0
      go_enter Try.func11, Try.ntmps11
      go_wp2_with (first | ((with_reducible refine atLoad (ty := 27) (x := .tmp 1) rfl ?_); refine wpList_load_row rfl 27 (.tmp 1) rfl w.heap.size rfl 27 #[.slice ahs Lhs.length chs, .slice ass Lss.length css, .slice aos Los.length cos, .slice ars Lrs.length crs, .int .i64 n4] (0, 0) _ (HX.out _ HB0.out) Try.underlying27 rfl info27 ?_) | (go_at_call 29; refine (HRI.out _ HB0.out).mono ?_; rintro e w1 ⟨rfl, hb1⟩; have HB1 := Lib.hid (HB0.out.trans (hb1.mono HSZ.out)); obtain ⟨c0, c1, c2, c3, c4⟩ := HC.out _ HB1.out; clear hb1))
      go_ret
      exact ⟨ret_bool (by rw [HM.out, HD.out]; simp), HLO.out _ HB1.out⟩
    have g0 : ¬ (32 : Int) < (Lhs.length : Int) := by omega
    have HD0 := Lib.hid (show decide (Lhs.length ≤ 32) = true by rw [decide_eq_true_eq]; omega)
    clear q0
    by_cases q1 : 64 < Los.length
    case pos =>
      have g1 : (64 : Int) < (Los.length : Int) := by omega
      have HD := Lib.hid (show decide (Los.length ≤ 64) = false by rw [decide_eq_false_iff_not]; omega)
      clear q1
      go_enter Try.func11, Try.ntmps11
      go_wp2_with (first | ((with_reducible refine atLoad (ty := 27) (x := .tmp 1) rfl ?_); refine wpList_load_row rfl 27 (.tmp 1) rfl w.heap.size rfl 27 #[.slice ahs Lhs.length chs, .slice ass Lss.length css, .slice aos Los.length cos, .slice ars Lrs.length crs, .int .i64 n4] (0, 0) _ (HX.out _ HB0.out) Try.underlying27 rfl info27 ?_) | (go_at_call 29; refine (HRI.out _ HB0.out).mono ?_; rintro e w1 ⟨rfl, hb1⟩; have HB1 := Lib.hid (HB0.out.trans (hb1.mono HSZ.out)); obtain ⟨c0, c1, c2, c3, c4⟩ := HC.out _ HB1.out; clear hb1))
      go_ret
      exact ⟨ret_bool (by rw [HM.out, HD.out]; simp), HLO.out _ HB1.out⟩
    have g1 : ¬ (64 : Int) < (Los.length : Int) := by omega
    have HD1 := Lib.hid (show decide (Los.length ≤ 64) = true by rw [decide_eq_true_eq]; omega)
    clear q1
    by_cases q2 : 32 < Lrs.length
    case pos =>
      have g2 : (32 : Int) < (Lrs.length : Int) := by omega
      have HD := Lib.hid (show decide (Lrs.length ≤ 32) = false by rw [decide_eq_false_iff_not]; omega)
      clear q2
      go_enter Try.func11, Try.ntmps11
      go_wp2_with (first | ((with_reducible refine atLoad (ty := 27) (x := .tmp 1) rfl ?_); refine wpList_load_row rfl 27 (.tmp 1) rfl w.heap.size rfl 27 #[.slice ahs Lhs.length chs, .slice ass Lss.length css, .slice aos Los.length cos, .slice ars Lrs.length crs, .int .i64 n4] (0, 0) _ (HX.out _ HB0.out) Try.underlying27 rfl info27 ?_) | (go_at_call 29; refine (HRI.out _ HB0.out).mono ?_; rintro e w1 ⟨rfl, hb1⟩; have HB1 := Lib.hid (HB0.out.trans (hb1.mono HSZ.out)); obtain ⟨c0, c1, c2, c3, c4⟩ := HC.out _ HB1.out; clear hb1))
      go_ret
      exact ⟨ret_bool (by rw [HM.out, HD.out]; simp), HLO.out _ HB1.out⟩
    have g2 : ¬ (32 : Int) < (Lrs.length : Int) := by omega
    have HD2 := Lib.hid (show decide (Lrs.length ≤ 32) = true by rw [decide_eq_true_eq]; omega)
    clear q2
    by_cases q3 : n4 < 0
    case pos =>
      have g3 : n4 < 0 := by omega
      have HD := Lib.hid (show decide (0 ≤ n4) = false by rw [decide_eq_false_iff_not]; omega)
      clear q3
      go_enter Try.func11, Try.ntmps11
      go_wp2_with (first | ((with_reducible refine atLoad (ty := 27) (x := .tmp 1) rfl ?_); refine wpList_load_row rfl 27 (.tmp 1) rfl w.heap.size rfl 27 #[.slice ahs Lhs.length chs, .slice ass Lss.length css, .slice aos Los.length cos, .slice ars Lrs.length crs, .int .i64 n4] (0, 0) _ (HX.out _ HB0.out) Try.underlying27 rfl info27 ?_) | (go_at_call 29; refine (HRI.out _ HB0.out).mono ?_; rintro e w1 ⟨rfl, hb1⟩; have HB1 := Lib.hid (HB0.out.trans (hb1.mono HSZ.out)); obtain ⟨c0, c1, c2, c3, c4⟩ := HC.out _ HB1.out; clear hb1))
      go_ret
      exact ⟨ret_bool (by rw [HM.out, HD.out]; simp), HLO.out _ HB1.out⟩
    have g3 : ¬ n4 < 0 := by omega
    have HD3 := Lib.hid (show decide (0 ≤ n4) = true by rw [decide_eq_true_eq]; omega)
    clear q3
    by_cases q4 : 1099511627776 < n4
    case pos =>
      have g4 : 1099511627776 < n4 := by omega
      have HD := Lib.hid (show decide (n4 ≤ 1099511627776) = false by rw [decide_eq_false_iff_not]; omega)
      clear q4
      go_enter Try.func11, Try.ntmps11
      go_wp2_with (first | ((with_reducible refine atLoad (ty := 27) (x := .tmp 1) rfl ?_); refine wpList_load_row rfl 27 (.tmp 1) rfl w.heap.size rfl 27 #[.slice ahs Lhs.length chs, .slice ass Lss.length css, .slice aos Los.length cos, .slice ars Lrs.length crs, .int .i64 n4] (0, 0) _ (HX.out _ HB0.out) Try.underlying27 rfl info27 ?_) | (go_at_call 29; refine (HRI.out _ HB0.out).mono ?_; rintro e w1 ⟨rfl, hb1⟩; have HB1 := Lib.hid (HB0.out.trans (hb1.mono HSZ.out)); obtain ⟨c0, c1, c2, c3, c4⟩ := HC.out _ HB1.out; clear hb1))
      go_ret
      exact ⟨ret_bool (by rw [HM.out, HD.out]; simp), HLO.out _ HB1.out⟩
    have g4 : ¬ 1099511627776 < n4 := by omega
    have HD4 := Lib.hid (show decide (n4 ≤ 1099511627776) = true by rw [decide_eq_true_eq]; omega)
    clear q4
    have HM2 := HM.out
    rw [HD0.out, HD1.out, HD2.out, HD3.out, HD4.out] at HM2
    have HM := Lib.hid HM2
    clear HM2 HD0 HD1 HD2 HD3 HD4
    go_enter Try.func11, Try.ntmps11
    go_wp2_with (first | ((with_reducible refine atLoad (ty := 27) (x := .tmp 1) rfl ?_); refine wpList_load_row rfl 27 (.tmp 1) rfl w.heap.size rfl 27 #[.slice ahs Lhs.length chs, .slice ass Lss.length css, .slice aos Los.length cos, .slice ars Lrs.length crs, .int .i64 n4] (0, 0) _ (HX.out _ HB0.out) Try.underlying27 rfl info27 ?_) | (go_at_call 29; refine (HRI.out _ HB0.out).mono ?_; rintro e w1 ⟨rfl, hb1⟩; have HB1 := Lib.hid (HB0.out.trans (hb1.mono HSZ.out)); obtain ⟨c0, c1, c2, c3, c4⟩ := HC.out _ HB1.out; clear hb1))
    clear hW0 HB0 c0 c1 c2 c3 c4 HRI
    go_loopw [3] (fun vi W => ∃ j : Nat, vi = .int .i64 (j : Int) ∧ j ≤ Lhs.length ∧ (Lhs.take j).all holdT = true ∧ Below (w.heap.size + 1) W0 W) (fun vi _ => Lhs.length - (intOf vi).toNat)
    case atStart => exact ⟨0, rfl, Nat.zero_le _, rfl, HB1.out⟩
    case round =>
      obtain ⟨j, rfl, hj, hri, hbw⟩ := hrel
      have HB := Lib.hid hbw
      have HRI := Lib.hid hri
      clear hbw hri HB1
      have cb := (HC.out _ HB.out).1
      by_cases hlt : j < Lhs.length
      · obtain ⟨x, hx⟩ : ∃ x, Lhs[j]? = some x := ⟨Lhs[j], by simp [hlt]⟩
        obtain ⟨b0, off, rfl, hb0, hcs⟩ := HROWhs.out.at hx
        obtain ⟨p, q, r, s, rfl⟩ := item4 (HKhs.out _ (List.mem_of_getElem? hx)).1
        have k0 := hcs _ (HLO.out _ HB.out) 0 p rfl
        have k1 := hcs _ (HLO.out _ HB.out) 1 q rfl
        have k2 := hcs _ (HLO.out _ HB.out) 2 r rfl
        have k3 := hcs _ (HLO.out _ HB.out) 3 s rfl
        rw [Nat.add_zero] at k0
        clear hcs
        by_cases h2 : r < 0
        · skip
          have HNO := Lib.hid (all_no hx (show holdT [p, q, r, s] = false by simp [holdT, key]; omega))
          clear hx
          go_wp2
          go_ret
          exact ⟨ret_bool (by rw [HM.out, HNO.out]; simp), HLO.out _ HB.out⟩
        by_cases h3 : s < 0
        · skip
          have HNO := Lib.hid (all_no hx (show holdT [p, q, r, s] = false by simp [holdT, key]; omega))
          clear hx
          go_wp2
          go_ret
          exact ⟨ret_bool (by rw [HM.out, HNO.out]; simp), HLO.out _ HB.out⟩
        · skip
          have HNX := Lib.hid (all_next hx (show holdT [p, q, r, s] = true by simp [holdT, key]; omega) HRI.out)
          clear hx
          go_wp2
          go_roundw
          case rel => exact ⟨j + 1, by go_num, by omega, HNX.out, HB.out⟩
          case measure => simp [intOf]; omega
      · have HA0 := Lib.hid (all_full (l := Lhs) (by have := HRI.out; rwa [show j = Lhs.length by omega] at this))
        have HB2 := Lib.hid HB.out
        clear HRI HB
        go_wp2
        clear hlt hj
        go_loopw [4] (fun vi W => ∃ j : Nat, vi = .int .i64 (j : Int) ∧ j ≤ Lrs.length ∧ (Lrs.take j).all rateT = true ∧ Below (w.heap.size + 1) W0 W) (fun vi _ => Lrs.length - (intOf vi).toNat)
        case atStart => exact ⟨0, rfl, Nat.zero_le _, rfl, HB2.out⟩
        case round =>
          obtain ⟨j, rfl, hj, hri, hbw⟩ := hrel
          have HB := Lib.hid hbw
          have HRI := Lib.hid hri
          clear hbw hri HB2
          have cb := (HC.out _ HB.out).2.2.2.1
          by_cases hlt : j < Lrs.length
          · obtain ⟨x, hx⟩ : ∃ x, Lrs[j]? = some x := ⟨Lrs[j], by simp [hlt]⟩
            obtain ⟨b0, off, rfl, hb0, hcs⟩ := HROWrs.out.at hx
            obtain ⟨p, q, rfl⟩ := item2 (HKrs.out _ (List.mem_of_getElem? hx)).1
            have k0 := hcs _ (HLO.out _ HB.out) 0 p rfl
            have k1 := hcs _ (HLO.out _ HB.out) 1 q rfl
            rw [Nat.add_zero] at k0
            clear hcs
            by_cases h2 : q < 1
            · skip
              have HNO := Lib.hid (all_no hx (show rateT [p, q] = false by simp [rateT, key]; omega))
              clear hx
              go_wp2
              go_ret
              exact ⟨ret_bool (by rw [HM.out, HNO.out]; simp), HLO.out _ HB.out⟩
            · skip
              have HNX := Lib.hid (all_next hx (show rateT [p, q] = true by simp [rateT, key]; omega) HRI.out)
              clear hx
              go_wp2
              go_roundw
              case rel => exact ⟨j + 1, by go_num, by omega, HNX.out, HB.out⟩
              case measure => simp [intOf]; omega
          · have HA1 := Lib.hid (all_full (l := Lrs) (by have := HRI.out; rwa [show j = Lrs.length by omega] at this))
            have HB3 := Lib.hid HB.out
            clear HRI HB
            go_wp2
            clear hlt hj
            go_loopw [5] (fun vi W => ∃ j : Nat, vi = .int .i64 (j : Int) ∧ j ≤ Lss.length ∧ (Lss.take j).all (stakeT b) = true ∧ Below (w.heap.size + 1) W0 W) (fun vi _ => Lss.length - (intOf vi).toNat)
            case atStart => exact ⟨0, rfl, Nat.zero_le _, rfl, HB3.out⟩
            case round =>
              obtain ⟨j, rfl, hj, hri, hbw⟩ := hrel
              have HB := Lib.hid hbw
              have HRI := Lib.hid hri
              clear hbw hri HB3
              have cb := (HC.out _ HB.out).2.1
              by_cases hlt : j < Lss.length
              · obtain ⟨x, hx⟩ : ∃ x, Lss[j]? = some x := ⟨Lss[j], by simp [hlt]⟩
                obtain ⟨b0, off, rfl, hb0, hcs⟩ := HROWss.out.at hx
                obtain ⟨p, q, r, rfl⟩ := item3 (HKss.out _ (List.mem_of_getElem? hx)).1
                have k0 := hcs _ (HLO.out _ HB.out) 0 p rfl
                have k1 := hcs _ (HLO.out _ HB.out) 1 q rfl
                have k2 := hcs _ (HLO.out _ HB.out) 2 r rfl
                rw [Nat.add_zero] at k0
                have HCS := Lib.hid (fun W h => hcs W (HLO.out W h))
                have hjz : j < Lss.length := hlt
                clear hcs
                have HSW := Lib.hid (show w.heap.size + 1 ≤ wr.drew.heap.size from Nat.le_trans HSZ.out HB.out.size)
                by_cases h2 : r = 0
                · have g : (r == 0) = true := by rw [beq_iff_eq]; exact h2
                  have HNO := Lib.hid (all_no hx (show (stakeT b) [p, q, r] = false by simp [stakeT, key, h2]))
                  clear hx
                  clear h2
                  go_wp2
                  refine wp_region_held_drew (S := fun W => Below (w.heap.size + 1) W0 W) (by kernel_rfl) (below_drewN' HB.out 1) (fun hS => ?_)
                  refine wpAnyH_take (i := 0) (v := .pointer (some ⟨w.heap.size, 1, none⟩)) rfl (by kernel_rfl) (by kernel_rfl) (by kernel_rfl) (fun _ _ _ h => h) (Or.inl ⟨by simp [Region.wanted], fun W _ => by go_simp⟩) hS ?_
                  simp only [List.getElem_toArray, List.getElem_cons_zero, Act.put, List.setIfInBounds_toArray, List.set_cons_zero, List.set_cons_succ]
                  refine wpAnyH_take (i := 1) (v := .slice (some ⟨b0, off, none⟩) Lss.length css) rfl (by kernel_rfl) (by kernel_rfl) (by kernel_rfl) (fun _ _ _ h => h) (Or.inl ⟨by simp [Region.wanted], fun W hW => by have c := (HC.out W hW).2.1; go_simp⟩) hS ?_
                  simp only [List.getElem_toArray, List.getElem_cons_zero, List.getElem_cons_succ, Act.put, List.setIfInBounds_toArray, List.set_cons_zero, List.set_cons_succ]
                  refine wpAnyH_take (i := 2) (v := .int .i64 (j : Int)) rfl (by kernel_rfl) (by kernel_rfl) (by kernel_rfl) (fun _ _ _ h => h) (Or.inl ⟨by simp [Region.wanted], fun W _ => by go_simp⟩) hS ?_
                  simp only [List.getElem_toArray, List.getElem_cons_zero, List.getElem_cons_succ, Act.put, List.setIfInBounds_toArray, List.set_cons_zero, List.set_cons_succ]
                  refine wpAnyH_take (i := 3) (v := .pointer (some ⟨b0, off + j * 3, none⟩)) rfl (by kernel_rfl) (by kernel_rfl) (by kernel_rfl) (fun _ _ _ h => h) (Or.inl ⟨by simp [Region.wanted], fun W _ => by go_simp; (try (intro h; omega))⟩) hS ?_
                  simp only [List.getElem_toArray, List.getElem_cons_zero, List.getElem_cons_succ, Act.put, List.setIfInBounds_toArray, List.set_cons_zero, List.set_cons_succ]
                  refine wpAnyH_take (i := 4) (v := .pointer (some ⟨b0, off + j * 3 + 2, none⟩)) rfl (by kernel_rfl) (by kernel_rfl) (by kernel_rfl) (fun _ _ _ h => h) (Or.inl ⟨by simp [Region.wanted], fun W _ => by go_simp⟩) hS ?_
                  simp only [List.getElem_toArray, List.getElem_cons_zero, List.getElem_cons_succ, Act.put, List.setIfInBounds_toArray, List.set_cons_zero, List.set_cons_succ]
                  refine wpAnyH_take (i := 5) (v := .int .i64 r) rfl (by kernel_rfl) (by kernel_rfl) (by kernel_rfl) (fun _ _ _ h => h) (Or.inl ⟨by simp [Region.wanted], fun W hW => by have c := HCS.out W hW 2 r rfl; go_simp⟩) hS ?_
                  simp only [List.getElem_toArray, List.getElem_cons_zero, List.getElem_cons_succ, Act.put, List.setIfInBounds_toArray, List.set_cons_zero, List.set_cons_succ]
                  refine wpAnyH_take (i := 6) (v := .bool true) rfl (by kernel_rfl) (by kernel_rfl) (by kernel_rfl) (fun _ _ _ h => h) (Or.inl ⟨by simp [Region.wanted], fun W _ => by go_simp⟩) hS ?_
                  simp only [List.getElem_toArray, List.getElem_cons_zero, List.getElem_cons_succ, Act.put, List.setIfInBounds_toArray, List.set_cons_zero, List.set_cons_succ]
                  refine wpAnyH_take (i := 7) (v := .bool true) rfl (by kernel_rfl) (by kernel_rfl) (by kernel_rfl) (fun _ _ _ h => h) (Or.inl ⟨by simp [Region.wanted], fun W _ => by go_simp⟩) hS ?_
                  simp only [List.getElem_toArray, List.getElem_cons_zero, List.getElem_cons_succ, Act.put, List.setIfInBounds_toArray, List.set_cons_zero, List.set_cons_succ]
                  refine wpAnyH_take (i := 8) (v := undef) rfl (by kernel_rfl) (by kernel_rfl) (by kernel_rfl) (fun _ _ _ h => h) (Or.inr ⟨by rfl, rfl⟩) hS ?_
                  simp only [List.getElem_toArray, List.getElem_cons_zero, List.getElem_cons_succ, Act.put, List.setIfInBounds_toArray, List.set_cons_zero, List.set_cons_succ]
                  refine wpAnyH_take (i := 9) (v := undef) rfl (by kernel_rfl) (by kernel_rfl) (by kernel_rfl) (fun _ _ _ h => h) (Or.inr ⟨by rfl, rfl⟩) hS ?_
                  simp only [List.getElem_toArray, List.getElem_cons_zero, List.getElem_cons_succ, Act.put, List.setIfInBounds_toArray, List.set_cons_zero, List.set_cons_succ]
                  refine wpAnyH_take (i := 10) (v := undef) rfl (by kernel_rfl) (by kernel_rfl) (by kernel_rfl) (fun _ _ _ h => h) (Or.inr ⟨by rfl, rfl⟩) hS ?_
                  simp only [List.getElem_toArray, List.getElem_cons_zero, List.getElem_cons_succ, Act.put, List.setIfInBounds_toArray, List.set_cons_zero, List.set_cons_succ]
                  refine wpAnyH_take (i := 11) (v := undef) rfl (by kernel_rfl) (by kernel_rfl) (by kernel_rfl) (fun _ _ _ h => h) (Or.inr ⟨by rfl, rfl⟩) hS ?_
                  simp only [List.getElem_toArray, List.getElem_cons_zero, List.getElem_cons_succ, Act.put, List.setIfInBounds_toArray, List.set_cons_zero, List.set_cons_succ]
                  refine wpAnyH_take (i := 12) (v := undef) rfl (by kernel_rfl) (by kernel_rfl) (by kernel_rfl) (fun _ _ _ h => h) (Or.inr ⟨by rfl, rfl⟩) hS ?_
                  simp only [List.getElem_toArray, List.getElem_cons_zero, List.getElem_cons_succ, Act.put, List.setIfInBounds_toArray, List.set_cons_zero, List.set_cons_succ]
                  refine wpAnyH_take (i := 13) (v := undef) rfl (by kernel_rfl) (by kernel_rfl) (by kernel_rfl) (fun _ _ _ h => h) (Or.inr ⟨by rfl, rfl⟩) hS ?_
                  simp only [List.getElem_toArray, List.getElem_cons_zero, List.getElem_cons_succ, Act.put, List.setIfInBounds_toArray, List.set_cons_zero, List.set_cons_succ]
                  refine wpAnyH_take (i := 14) (v := undef) rfl (by kernel_rfl) (by kernel_rfl) (by kernel_rfl) (fun _ _ _ h => h) (Or.inr ⟨by rfl, rfl⟩) hS ?_
                  simp only [List.getElem_toArray, List.getElem_cons_zero, List.getElem_cons_succ, Act.put, List.setIfInBounds_toArray, List.set_cons_zero, List.set_cons_succ]
                  refine wpAnyH_take (i := 15) (v := undef) rfl (by kernel_rfl) (by kernel_rfl) (by kernel_rfl) (fun _ _ _ h => h) (Or.inr ⟨by rfl, rfl⟩) hS ?_
                  simp only [List.getElem_toArray, List.getElem_cons_zero, List.getElem_cons_succ, Act.put, List.setIfInBounds_toArray, List.set_cons_zero, List.set_cons_succ]
                  refine wpAnyH_take (i := 16) (v := undef) rfl (by kernel_rfl) (by kernel_rfl) (by kernel_rfl) (fun _ _ _ h => h) (Or.inr ⟨by rfl, rfl⟩) hS ?_
                  simp only [List.getElem_toArray, List.getElem_cons_zero, List.getElem_cons_succ, Act.put, List.setIfInBounds_toArray, List.set_cons_zero, List.set_cons_succ]
                  refine wpAnyH_take (i := 17) (v := undef) rfl (by kernel_rfl) (by kernel_rfl) (by kernel_rfl) (fun _ _ _ h => h) (Or.inr ⟨by rfl, rfl⟩) hS ?_
                  simp only [List.getElem_toArray, List.getElem_cons_zero, List.getElem_cons_succ, Act.put, List.setIfInBounds_toArray, List.set_cons_zero, List.set_cons_succ]
                  refine wpAnyH_take (i := 18) (v := undef) rfl (by kernel_rfl) (by kernel_rfl) (by kernel_rfl) (fun _ _ _ h => h) (Or.inr ⟨by rfl, rfl⟩) hS ?_
                  simp only [List.getElem_toArray, List.getElem_cons_zero, List.getElem_cons_succ, Act.put, List.setIfInBounds_toArray, List.set_cons_zero, List.set_cons_succ]
                  refine wpAnyH_take (i := 19) (v := undef) rfl (by kernel_rfl) (by kernel_rfl) (by kernel_rfl) (fun _ _ _ h => h) (Or.inr ⟨by rfl, rfl⟩) hS ?_
                  simp only [List.getElem_toArray, List.getElem_cons_zero, List.getElem_cons_succ, Act.put, List.setIfInBounds_toArray, List.set_cons_zero, List.set_cons_succ]
                  refine wpAnyH_take (i := 20) (v := undef) rfl (by kernel_rfl) (by kernel_rfl) (by kernel_rfl) (fun _ _ _ h => h) (Or.inr ⟨by rfl, rfl⟩) hS ?_
                  simp only [List.getElem_toArray, List.getElem_cons_zero, List.getElem_cons_succ, Act.put, List.setIfInBounds_toArray, List.set_cons_zero, List.set_cons_succ]
                  refine wpAnyH_take (i := 21) (v := undef) rfl (by kernel_rfl) (by kernel_rfl) (by kernel_rfl) (fun _ _ _ h => h) (Or.inr ⟨by rfl, rfl⟩) hS ?_
                  simp only [List.getElem_toArray, List.getElem_cons_zero, List.getElem_cons_succ, Act.put, List.setIfInBounds_toArray, List.set_cons_zero, List.set_cons_succ]
                  refine wpAnyH_take (i := 22) (v := undef) rfl (by kernel_rfl) (by kernel_rfl) (by kernel_rfl) (fun _ _ _ h => h) (Or.inr ⟨by rfl, rfl⟩) hS ?_
                  simp only [List.getElem_toArray, List.getElem_cons_zero, List.getElem_cons_succ, Act.put, List.setIfInBounds_toArray, List.set_cons_zero, List.set_cons_succ]
                  refine wpAnyH_take (i := 23) (v := .bool true) rfl (by kernel_rfl) (by kernel_rfl) (by kernel_rfl) (fun _ _ _ h => h) (Or.inl ⟨by simp [Region.wanted], fun W _ => by go_simp⟩) hS ?_
                  simp only [List.getElem_toArray, List.getElem_cons_zero, List.getElem_cons_succ, Act.put, List.setIfInBounds_toArray, List.set_cons_zero, List.set_cons_succ]
                  refine wpAnyH_done (by kernel_rfl) ?_ _
                  go_wp2
                  go_ret
                  exact ⟨ret_bool (by rw [HM.out, HNO.out]; simp), HLO.out _ (below_drewN' HB.out 1)⟩
                have g : (r == 0) = false := by rw [beq_eq_false_iff_ne]; exact h2
                cases ht : thereT b p q with
                | false =>
                  have HNO := Lib.hid (all_no hx (show (stakeT b) [p, q, r] = false by simp [stakeT, key, ht]))
                  clear hx
                  have HTH2 := HTH.out p q
                  rw [ht] at HTH2
                  have HTH := Lib.hid (fun (a s : Int) => HTH2)
                  clear ht h2 HTH2
                  go_wp2
                  refine wp_region_held_drew (S := fun W => Below (w.heap.size + 1) W0 W) (by kernel_rfl) (below_drewN' HB.out 1) (fun hS => ?_)
                  refine wpAnyH_take (i := 0) (v := .pointer (some ⟨w.heap.size, 1, none⟩)) rfl (by kernel_rfl) (by kernel_rfl) (by kernel_rfl) (fun _ _ _ h => h) (Or.inl ⟨by simp [Region.wanted], fun W _ => by go_simp⟩) hS ?_
                  simp only [List.getElem_toArray, List.getElem_cons_zero, Act.put, List.setIfInBounds_toArray, List.set_cons_zero, List.set_cons_succ]
                  refine wpAnyH_take (i := 1) (v := .slice (some ⟨b0, off, none⟩) Lss.length css) rfl (by kernel_rfl) (by kernel_rfl) (by kernel_rfl) (fun _ _ _ h => h) (Or.inl ⟨by simp [Region.wanted], fun W hW => by have c := (HC.out W hW).2.1; go_simp⟩) hS ?_
                  simp only [List.getElem_toArray, List.getElem_cons_zero, List.getElem_cons_succ, Act.put, List.setIfInBounds_toArray, List.set_cons_zero, List.set_cons_succ]
                  refine wpAnyH_take (i := 2) (v := .int .i64 (j : Int)) rfl (by kernel_rfl) (by kernel_rfl) (by kernel_rfl) (fun _ _ _ h => h) (Or.inl ⟨by simp [Region.wanted], fun W _ => by go_simp⟩) hS ?_
                  simp only [List.getElem_toArray, List.getElem_cons_zero, List.getElem_cons_succ, Act.put, List.setIfInBounds_toArray, List.set_cons_zero, List.set_cons_succ]
                  refine wpAnyH_take (i := 3) (v := .pointer (some ⟨b0, off + j * 3, none⟩)) rfl (by kernel_rfl) (by kernel_rfl) (by kernel_rfl) (fun _ _ _ h => h) (Or.inl ⟨by simp [Region.wanted], fun W _ => by go_simp; (try (intro h; omega))⟩) hS ?_
                  simp only [List.getElem_toArray, List.getElem_cons_zero, List.getElem_cons_succ, Act.put, List.setIfInBounds_toArray, List.set_cons_zero, List.set_cons_succ]
                  refine wpAnyH_take (i := 4) (v := .pointer (some ⟨b0, off + j * 3 + 2, none⟩)) rfl (by kernel_rfl) (by kernel_rfl) (by kernel_rfl) (fun _ _ _ h => h) (Or.inl ⟨by simp [Region.wanted], fun W _ => by go_simp⟩) hS ?_
                  simp only [List.getElem_toArray, List.getElem_cons_zero, List.getElem_cons_succ, Act.put, List.setIfInBounds_toArray, List.set_cons_zero, List.set_cons_succ]
                  refine wpAnyH_take (i := 5) (v := .int .i64 r) rfl (by kernel_rfl) (by kernel_rfl) (by kernel_rfl) (fun _ _ _ h => h) (Or.inl ⟨by simp [Region.wanted], fun W hW => by have c := HCS.out W hW 2 r rfl; go_simp⟩) hS ?_
                  simp only [List.getElem_toArray, List.getElem_cons_zero, List.getElem_cons_succ, Act.put, List.setIfInBounds_toArray, List.set_cons_zero, List.set_cons_succ]
                  refine wpAnyH_take (i := 6) (v := .bool false) rfl (by kernel_rfl) (by kernel_rfl) (by kernel_rfl) (fun _ _ _ h => h) (Or.inl ⟨by simp [Region.wanted], fun W _ => by go_simp⟩) hS ?_
                  simp only [List.getElem_toArray, List.getElem_cons_zero, List.getElem_cons_succ, Act.put, List.setIfInBounds_toArray, List.set_cons_zero, List.set_cons_succ]
                  refine wpAnyH_take (i := 7) (v := .bool false) rfl (by kernel_rfl) (by kernel_rfl) (by kernel_rfl) (fun _ _ _ h => h) (Or.inl ⟨by simp [Region.wanted], fun W _ => by go_simp⟩) hS ?_
                  simp only [List.getElem_toArray, List.getElem_cons_zero, List.getElem_cons_succ, Act.put, List.setIfInBounds_toArray, List.set_cons_zero, List.set_cons_succ]
                  refine wpAnyH_take (i := 8) (v := .agg #[.slice ahs Lhs.length chs, .slice (some ⟨b0, off, none⟩) Lss.length css, .slice aos Los.length cos, .slice ars Lrs.length crs, .int .i64 n4]) rfl (by kernel_rfl) (by kernel_rfl) (by kernel_rfl) (fun _ _ _ h => h) (Or.inl ⟨by rfl, fun W hW => by obtain ⟨c0, c1, c2, c3, c4⟩ := HC.out W hW; go_simp⟩) hS ?_
                  simp only [List.getElem_toArray, List.getElem_cons_zero, List.getElem_cons_succ, Act.put, List.setIfInBounds_toArray, List.set_cons_zero, List.set_cons_succ]
                  refine wpAnyH_take (i := 9) (v := .pointer (some ⟨w.heap.size, 1, none⟩)) rfl (by kernel_rfl) (by kernel_rfl) (by kernel_rfl) (fun _ _ _ h => h) (Or.inl ⟨by rfl, fun W _ => by go_simp⟩) hS ?_
                  simp only [List.getElem_toArray, List.getElem_cons_zero, List.getElem_cons_succ, Act.put, List.setIfInBounds_toArray, List.set_cons_zero, List.set_cons_succ]
                  refine wpAnyH_take (i := 10) (v := .slice (some ⟨b0, off, none⟩) Lss.length css) rfl (by kernel_rfl) (by kernel_rfl) (by kernel_rfl) (fun _ _ _ h => h) (Or.inl ⟨by rfl, fun W hW => by have c := (HC.out W hW).2.1; go_simp⟩) hS ?_
                  simp only [List.getElem_toArray, List.getElem_cons_zero, List.getElem_cons_succ, Act.put, List.setIfInBounds_toArray, List.set_cons_zero, List.set_cons_succ]
                  refine wpAnyH_take (i := 11) (v := .int .i64 (j : Int)) rfl (by kernel_rfl) (by kernel_rfl) (by kernel_rfl) (fun _ _ _ h => h) (Or.inl ⟨by rfl, fun W _ => by go_simp⟩) hS ?_
                  simp only [List.getElem_toArray, List.getElem_cons_zero, List.getElem_cons_succ, Act.put, List.setIfInBounds_toArray, List.set_cons_zero, List.set_cons_succ]
                  refine wpAnyH_take (i := 12) (v := .pointer (some ⟨b0, off + j * 3, none⟩)) rfl (by kernel_rfl) (by kernel_rfl) (by kernel_rfl) (fun _ _ _ h => h) (Or.inl ⟨by rfl, fun W _ => by go_simp; (try (intro h; omega))⟩) hS ?_
                  simp only [List.getElem_toArray, List.getElem_cons_zero, List.getElem_cons_succ, Act.put, List.setIfInBounds_toArray, List.set_cons_zero, List.set_cons_succ]
                  refine wpAnyH_take (i := 13) (v := .pointer (some ⟨b0, off + j * 3, none⟩)) rfl (by kernel_rfl) (by kernel_rfl) (by kernel_rfl) (fun _ _ _ h => h) (Or.inl ⟨by rfl, fun W _ => by go_simp⟩) hS ?_
                  simp only [List.getElem_toArray, List.getElem_cons_zero, List.getElem_cons_succ, Act.put, List.setIfInBounds_toArray, List.set_cons_zero, List.set_cons_succ]
                  refine wpAnyH_take (i := 14) (v := .int .i64 p) rfl (by kernel_rfl) (by kernel_rfl) (by kernel_rfl) (fun _ _ _ h => h) (Or.inl ⟨by rfl, fun W hW => by have c := HCS.out W hW 0 p rfl; rw [Nat.add_zero] at c; go_simp⟩) hS ?_
                  simp only [List.getElem_toArray, List.getElem_cons_zero, List.getElem_cons_succ, Act.put, List.setIfInBounds_toArray, List.set_cons_zero, List.set_cons_succ]
                  refine wpAnyH_take (i := 15) (v := .pointer (some ⟨w.heap.size, 1, none⟩)) rfl (by kernel_rfl) (by kernel_rfl) (by kernel_rfl) (fun _ _ _ h => h) (Or.inl ⟨by rfl, fun W _ => by go_simp⟩) hS ?_
                  simp only [List.getElem_toArray, List.getElem_cons_zero, List.getElem_cons_succ, Act.put, List.setIfInBounds_toArray, List.set_cons_zero, List.set_cons_succ]
                  refine wpAnyH_take (i := 16) (v := .slice (some ⟨b0, off, none⟩) Lss.length css) rfl (by kernel_rfl) (by kernel_rfl) (by kernel_rfl) (fun _ _ _ h => h) (Or.inl ⟨by rfl, fun W hW => by have c := (HC.out W hW).2.1; go_simp⟩) hS ?_
                  simp only [List.getElem_toArray, List.getElem_cons_zero, List.getElem_cons_succ, Act.put, List.setIfInBounds_toArray, List.set_cons_zero, List.set_cons_succ]
                  refine wpAnyH_take (i := 17) (v := .int .i64 (j : Int)) rfl (by kernel_rfl) (by kernel_rfl) (by kernel_rfl) (fun _ _ _ h => h) (Or.inl ⟨by rfl, fun W _ => by go_simp⟩) hS ?_
                  simp only [List.getElem_toArray, List.getElem_cons_zero, List.getElem_cons_succ, Act.put, List.setIfInBounds_toArray, List.set_cons_zero, List.set_cons_succ]
                  refine wpAnyH_take (i := 18) (v := .pointer (some ⟨b0, off + j * 3, none⟩)) rfl (by kernel_rfl) (by kernel_rfl) (by kernel_rfl) (fun _ _ _ h => h) (Or.inl ⟨by rfl, fun W _ => by go_simp; (try (intro h; omega))⟩) hS ?_
                  simp only [List.getElem_toArray, List.getElem_cons_zero, List.getElem_cons_succ, Act.put, List.setIfInBounds_toArray, List.set_cons_zero, List.set_cons_succ]
                  refine wpAnyH_take (i := 19) (v := .pointer (some ⟨b0, off + j * 3 + 1, none⟩)) rfl (by kernel_rfl) (by kernel_rfl) (by kernel_rfl) (fun _ _ _ h => h) (Or.inl ⟨by rfl, fun W _ => by go_simp⟩) hS ?_
                  simp only [List.getElem_toArray, List.getElem_cons_zero, List.getElem_cons_succ, Act.put, List.setIfInBounds_toArray, List.set_cons_zero, List.set_cons_succ]
                  refine wpAnyH_take (i := 20) (v := .int .i64 q) rfl (by kernel_rfl) (by kernel_rfl) (by kernel_rfl) (fun _ _ _ h => h) (Or.inl ⟨by rfl, fun W hW => by have c := HCS.out W hW 1 q rfl; go_simp⟩) hS ?_
                  simp only [List.getElem_toArray, List.getElem_cons_zero, List.getElem_cons_succ, Act.put, List.setIfInBounds_toArray, List.set_cons_zero, List.set_cons_succ]
                  refine wpAnyH_ready (rs := [21]) (by kernel_rfl) (by simp) ?_
                  refine AllReadyH.cons rfl (fun K1 hK1 => ?_) AllReadyH.nil
                  rw [if_pos (by rfl)]
                  simp only [List.getElem_toArray, List.getElem_cons_zero, List.getElem_cons_succ]
                  go_wp2_with (go_at_call 30; refine (HTH.out p q _ hS).mono ?_; rintro e w2 ⟨rfl, hb2⟩; have HB2 := Lib.hid (hS.trans (hb2.mono HSW.out)); clear hb2)
                  refine hK1.out _ _ (HB2.out) (fun hS1 => ?_)
                  refine wpAnyH_take (i := 22) (v := .bool true) rfl (by kernel_rfl) (by kernel_rfl) (by kernel_rfl) (fun _ _ _ h => h) (Or.inl ⟨by rfl, fun W _ => by go_simp⟩) hS1 ?_
                  simp only [List.getElem_toArray, List.getElem_cons_zero, List.getElem_cons_succ, Act.put, List.setIfInBounds_toArray, List.set_cons_zero, List.set_cons_succ]
                  refine wpAnyH_take (i := 23) (v := .bool true) rfl (by kernel_rfl) (by kernel_rfl) (by kernel_rfl) (fun _ _ _ h => h) (Or.inl ⟨by simp [Region.wanted], fun W _ => by go_simp⟩) hS1 ?_
                  simp only [List.getElem_toArray, List.getElem_cons_zero, List.getElem_cons_succ, Act.put, List.setIfInBounds_toArray, List.set_cons_zero, List.set_cons_succ]
                  refine wpAnyH_done (by kernel_rfl) ?_ _
                  go_wp2
                  go_ret
                  exact ⟨ret_bool (by rw [HM.out, HNO.out]; simp), HLO.out _ HB2.out⟩
                | true =>
                  have HNX := Lib.hid (all_next hx (show (stakeT b) [p, q, r] = true by simp [stakeT, key, ht, h2]) HRI.out)
                  clear hx
                  have HTH2 := HTH.out p q
                  rw [ht] at HTH2
                  have HTH0 := HTH
                  have HTH := Lib.hid (fun (a s : Int) => HTH2)
                  clear ht h2 HTH2
                  go_wp2
                  refine wp_region_held_drew (S := fun W => Below (w.heap.size + 1) W0 W) (by kernel_rfl) (below_drewN' HB.out 1) (fun hS => ?_)
                  refine wpAnyH_take (i := 0) (v := .pointer (some ⟨w.heap.size, 1, none⟩)) rfl (by kernel_rfl) (by kernel_rfl) (by kernel_rfl) (fun _ _ _ h => h) (Or.inl ⟨by simp [Region.wanted], fun W _ => by go_simp⟩) hS ?_
                  simp only [List.getElem_toArray, List.getElem_cons_zero, Act.put, List.setIfInBounds_toArray, List.set_cons_zero, List.set_cons_succ]
                  refine wpAnyH_take (i := 1) (v := .slice (some ⟨b0, off, none⟩) Lss.length css) rfl (by kernel_rfl) (by kernel_rfl) (by kernel_rfl) (fun _ _ _ h => h) (Or.inl ⟨by simp [Region.wanted], fun W hW => by have c := (HC.out W hW).2.1; go_simp⟩) hS ?_
                  simp only [List.getElem_toArray, List.getElem_cons_zero, List.getElem_cons_succ, Act.put, List.setIfInBounds_toArray, List.set_cons_zero, List.set_cons_succ]
                  refine wpAnyH_take (i := 2) (v := .int .i64 (j : Int)) rfl (by kernel_rfl) (by kernel_rfl) (by kernel_rfl) (fun _ _ _ h => h) (Or.inl ⟨by simp [Region.wanted], fun W _ => by go_simp⟩) hS ?_
                  simp only [List.getElem_toArray, List.getElem_cons_zero, List.getElem_cons_succ, Act.put, List.setIfInBounds_toArray, List.set_cons_zero, List.set_cons_succ]
                  refine wpAnyH_take (i := 3) (v := .pointer (some ⟨b0, off + j * 3, none⟩)) rfl (by kernel_rfl) (by kernel_rfl) (by kernel_rfl) (fun _ _ _ h => h) (Or.inl ⟨by simp [Region.wanted], fun W _ => by go_simp; (try (intro h; omega))⟩) hS ?_
                  simp only [List.getElem_toArray, List.getElem_cons_zero, List.getElem_cons_succ, Act.put, List.setIfInBounds_toArray, List.set_cons_zero, List.set_cons_succ]
                  refine wpAnyH_take (i := 4) (v := .pointer (some ⟨b0, off + j * 3 + 2, none⟩)) rfl (by kernel_rfl) (by kernel_rfl) (by kernel_rfl) (fun _ _ _ h => h) (Or.inl ⟨by simp [Region.wanted], fun W _ => by go_simp⟩) hS ?_
                  simp only [List.getElem_toArray, List.getElem_cons_zero, List.getElem_cons_succ, Act.put, List.setIfInBounds_toArray, List.set_cons_zero, List.set_cons_succ]
                  refine wpAnyH_take (i := 5) (v := .int .i64 r) rfl (by kernel_rfl) (by kernel_rfl) (by kernel_rfl) (fun _ _ _ h => h) (Or.inl ⟨by simp [Region.wanted], fun W hW => by have c := HCS.out W hW 2 r rfl; go_simp⟩) hS ?_
                  simp only [List.getElem_toArray, List.getElem_cons_zero, List.getElem_cons_succ, Act.put, List.setIfInBounds_toArray, List.set_cons_zero, List.set_cons_succ]
                  refine wpAnyH_take (i := 6) (v := .bool false) rfl (by kernel_rfl) (by kernel_rfl) (by kernel_rfl) (fun _ _ _ h => h) (Or.inl ⟨by simp [Region.wanted], fun W _ => by go_simp⟩) hS ?_
                  simp only [List.getElem_toArray, List.getElem_cons_zero, List.getElem_cons_succ, Act.put, List.setIfInBounds_toArray, List.set_cons_zero, List.set_cons_succ]
                  refine wpAnyH_take (i := 7) (v := .bool false) rfl (by kernel_rfl) (by kernel_rfl) (by kernel_rfl) (fun _ _ _ h => h) (Or.inl ⟨by simp [Region.wanted], fun W _ => by go_simp⟩) hS ?_
                  simp only [List.getElem_toArray, List.getElem_cons_zero, List.getElem_cons_succ, Act.put, List.setIfInBounds_toArray, List.set_cons_zero, List.set_cons_succ]
                  refine wpAnyH_take (i := 8) (v := .agg #[.slice ahs Lhs.length chs, .slice (some ⟨b0, off, none⟩) Lss.length css, .slice aos Los.length cos, .slice ars Lrs.length crs, .int .i64 n4]) rfl (by kernel_rfl) (by kernel_rfl) (by kernel_rfl) (fun _ _ _ h => h) (Or.inl ⟨by rfl, fun W hW => by obtain ⟨c0, c1, c2, c3, c4⟩ := HC.out W hW; go_simp⟩) hS ?_
                  simp only [List.getElem_toArray, List.getElem_cons_zero, List.getElem_cons_succ, Act.put, List.setIfInBounds_toArray, List.set_cons_zero, List.set_cons_succ]
                  refine wpAnyH_take (i := 9) (v := .pointer (some ⟨w.heap.size, 1, none⟩)) rfl (by kernel_rfl) (by kernel_rfl) (by kernel_rfl) (fun _ _ _ h => h) (Or.inl ⟨by rfl, fun W _ => by go_simp⟩) hS ?_
                  simp only [List.getElem_toArray, List.getElem_cons_zero, List.getElem_cons_succ, Act.put, List.setIfInBounds_toArray, List.set_cons_zero, List.set_cons_succ]
                  refine wpAnyH_take (i := 10) (v := .slice (some ⟨b0, off, none⟩) Lss.length css) rfl (by kernel_rfl) (by kernel_rfl) (by kernel_rfl) (fun _ _ _ h => h) (Or.inl ⟨by rfl, fun W hW => by have c := (HC.out W hW).2.1; go_simp⟩) hS ?_
                  simp only [List.getElem_toArray, List.getElem_cons_zero, List.getElem_cons_succ, Act.put, List.setIfInBounds_toArray, List.set_cons_zero, List.set_cons_succ]
                  refine wpAnyH_take (i := 11) (v := .int .i64 (j : Int)) rfl (by kernel_rfl) (by kernel_rfl) (by kernel_rfl) (fun _ _ _ h => h) (Or.inl ⟨by rfl, fun W _ => by go_simp⟩) hS ?_
                  simp only [List.getElem_toArray, List.getElem_cons_zero, List.getElem_cons_succ, Act.put, List.setIfInBounds_toArray, List.set_cons_zero, List.set_cons_succ]
                  refine wpAnyH_take (i := 12) (v := .pointer (some ⟨b0, off + j * 3, none⟩)) rfl (by kernel_rfl) (by kernel_rfl) (by kernel_rfl) (fun _ _ _ h => h) (Or.inl ⟨by rfl, fun W _ => by go_simp; (try (intro h; omega))⟩) hS ?_
                  simp only [List.getElem_toArray, List.getElem_cons_zero, List.getElem_cons_succ, Act.put, List.setIfInBounds_toArray, List.set_cons_zero, List.set_cons_succ]
                  refine wpAnyH_take (i := 13) (v := .pointer (some ⟨b0, off + j * 3, none⟩)) rfl (by kernel_rfl) (by kernel_rfl) (by kernel_rfl) (fun _ _ _ h => h) (Or.inl ⟨by rfl, fun W _ => by go_simp⟩) hS ?_
                  simp only [List.getElem_toArray, List.getElem_cons_zero, List.getElem_cons_succ, Act.put, List.setIfInBounds_toArray, List.set_cons_zero, List.set_cons_succ]
                  refine wpAnyH_take (i := 14) (v := .int .i64 p) rfl (by kernel_rfl) (by kernel_rfl) (by kernel_rfl) (fun _ _ _ h => h) (Or.inl ⟨by rfl, fun W hW => by have c := HCS.out W hW 0 p rfl; rw [Nat.add_zero] at c; go_simp⟩) hS ?_
                  simp only [List.getElem_toArray, List.getElem_cons_zero, List.getElem_cons_succ, Act.put, List.setIfInBounds_toArray, List.set_cons_zero, List.set_cons_succ]
                  refine wpAnyH_take (i := 15) (v := .pointer (some ⟨w.heap.size, 1, none⟩)) rfl (by kernel_rfl) (by kernel_rfl) (by kernel_rfl) (fun _ _ _ h => h) (Or.inl ⟨by rfl, fun W _ => by go_simp⟩) hS ?_
                  simp only [List.getElem_toArray, List.getElem_cons_zero, List.getElem_cons_succ, Act.put, List.setIfInBounds_toArray, List.set_cons_zero, List.set_cons_succ]
                  refine wpAnyH_take (i := 16) (v := .slice (some ⟨b0, off, none⟩) Lss.length css) rfl (by kernel_rfl) (by kernel_rfl) (by kernel_rfl) (fun _ _ _ h => h) (Or.inl ⟨by rfl, fun W hW => by have c := (HC.out W hW).2.1; go_simp⟩) hS ?_
                  simp only [List.getElem_toArray, List.getElem_cons_zero, List.getElem_cons_succ, Act.put, List.setIfInBounds_toArray, List.set_cons_zero, List.set_cons_succ]
                  refine wpAnyH_take (i := 17) (v := .int .i64 (j : Int)) rfl (by kernel_rfl) (by kernel_rfl) (by kernel_rfl) (fun _ _ _ h => h) (Or.inl ⟨by rfl, fun W _ => by go_simp⟩) hS ?_
                  simp only [List.getElem_toArray, List.getElem_cons_zero, List.getElem_cons_succ, Act.put, List.setIfInBounds_toArray, List.set_cons_zero, List.set_cons_succ]
                  refine wpAnyH_take (i := 18) (v := .pointer (some ⟨b0, off + j * 3, none⟩)) rfl (by kernel_rfl) (by kernel_rfl) (by kernel_rfl) (fun _ _ _ h => h) (Or.inl ⟨by rfl, fun W _ => by go_simp; (try (intro h; omega))⟩) hS ?_
                  simp only [List.getElem_toArray, List.getElem_cons_zero, List.getElem_cons_succ, Act.put, List.setIfInBounds_toArray, List.set_cons_zero, List.set_cons_succ]
                  refine wpAnyH_take (i := 19) (v := .pointer (some ⟨b0, off + j * 3 + 1, none⟩)) rfl (by kernel_rfl) (by kernel_rfl) (by kernel_rfl) (fun _ _ _ h => h) (Or.inl ⟨by rfl, fun W _ => by go_simp⟩) hS ?_
                  simp only [List.getElem_toArray, List.getElem_cons_zero, List.getElem_cons_succ, Act.put, List.setIfInBounds_toArray, List.set_cons_zero, List.set_cons_succ]
                  refine wpAnyH_take (i := 20) (v := .int .i64 q) rfl (by kernel_rfl) (by kernel_rfl) (by kernel_rfl) (fun _ _ _ h => h) (Or.inl ⟨by rfl, fun W hW => by have c := HCS.out W hW 1 q rfl; go_simp⟩) hS ?_
                  simp only [List.getElem_toArray, List.getElem_cons_zero, List.getElem_cons_succ, Act.put, List.setIfInBounds_toArray, List.set_cons_zero, List.set_cons_succ]
                  refine wpAnyH_ready (rs := [21]) (by kernel_rfl) (by simp) ?_
                  refine AllReadyH.cons rfl (fun K1 hK1 => ?_) AllReadyH.nil
                  rw [if_pos (by rfl)]
                  simp only [List.getElem_toArray, List.getElem_cons_zero, List.getElem_cons_succ]
                  go_wp2_with (go_at_call 30; refine (HTH.out p q _ hS).mono ?_; rintro e w2 ⟨rfl, hb2⟩; have HB2 := Lib.hid (hS.trans (hb2.mono HSW.out)); clear hb2)
                  refine hK1.out _ _ (HB2.out) (fun hS1 => ?_)
                  refine wpAnyH_take (i := 22) (v := .bool false) rfl (by kernel_rfl) (by kernel_rfl) (by kernel_rfl) (fun _ _ _ h => h) (Or.inl ⟨by rfl, fun W _ => by go_simp⟩) hS1 ?_
                  simp only [List.getElem_toArray, List.getElem_cons_zero, List.getElem_cons_succ, Act.put, List.setIfInBounds_toArray, List.set_cons_zero, List.set_cons_succ]
                  refine wpAnyH_take (i := 23) (v := .bool false) rfl (by kernel_rfl) (by kernel_rfl) (by kernel_rfl) (fun _ _ _ h => h) (Or.inl ⟨by simp [Region.wanted], fun W _ => by go_simp⟩) hS1 ?_
                  simp only [List.getElem_toArray, List.getElem_cons_zero, List.getElem_cons_succ, Act.put, List.setIfInBounds_toArray, List.set_cons_zero, List.set_cons_succ]
                  refine wpAnyH_done (by kernel_rfl) ?_ _
                  go_wp2
                  go_roundw
                  case rel => exact ⟨j + 1, by go_num, by omega, HNX.out, HB2.out⟩
                  case measure => simp [intOf]; omega
              · have HA2 := Lib.hid (all_full (l := Lss) (by have := HRI.out; rwa [show j = Lss.length by omega] at this))
                have HB4 := Lib.hid HB.out
                clear HRI HB
                go_wp2
                clear hlt hj
                go_loopw [6] (fun vi W => ∃ j : Nat, vi = .int .i64 (j : Int) ∧ j ≤ Los.length ∧ (Los.take j).all (openT b) = true ∧ Below (w.heap.size + 1) W0 W) (fun vi _ => Los.length - (intOf vi).toNat)
                case atStart => exact ⟨0, rfl, Nat.zero_le _, rfl, HB4.out⟩
                case round =>
                  obtain ⟨j, rfl, hj, hri, hbw⟩ := hrel
                  have HB := Lib.hid hbw
                  have HRI := Lib.hid hri
                  clear hbw hri HB4
                  have cb := (HC.out _ HB.out).2.2.1
                  by_cases hlt : j < Los.length
                  · obtain ⟨x, hx⟩ : ∃ x, Los[j]? = some x := ⟨Los[j], by simp [hlt]⟩
                    obtain ⟨b0, off, rfl, hb0, hcs⟩ := HROWos.out.at hx
                    obtain ⟨p, q, r, s, t, z, rfl⟩ := item6 (HKos.out _ (List.mem_of_getElem? hx)).1
                    have k0 := hcs _ (HLO.out _ HB.out) 0 p rfl
                    have k1 := hcs _ (HLO.out _ HB.out) 1 q rfl
                    have k2 := hcs _ (HLO.out _ HB.out) 2 r rfl
                    have k3 := hcs _ (HLO.out _ HB.out) 3 s rfl
                    have k4 := hcs _ (HLO.out _ HB.out) 4 t rfl
                    have k5 := hcs _ (HLO.out _ HB.out) 5 z rfl
                    rw [Nat.add_zero] at k0
                    clear hcs
                    go_upto_region 22 with ((with_reducible refine atStore (ty := 37) (x := .tmp 7) (y := .tmp 118) rfl ?_); refine wpList_store_row rfl 37 (.tmp 7) (.tmp 118) rfl wr.heap.size #[.int .i64 p, .int .i64 q, .int .i64 r, .int .i64 s, .int .i64 t, .int .i64 z] rfl rfl 37 #[.int .i64 0, .int .i64 0, .int .i64 0, .int .i64 0, .int .i64 0, .int .i64 0] (heap_alloc_new wr _) info37 rfl (by simp [Value.oneCell']) ?_)
                    refine at_world (Φ := fun W => Below wr.heap.size wr W ∧ W.heap[wr.heap.size]? = some (.cells #[.int .i64 p, .int .i64 q, .int .i64 r, .int .i64 s, .int .i64 t, .int .i64 z] 37 (0, 0))) ⟨below_rowB ((Below.refl _ _).alloc (Nat.le_refl _) _) (Nat.le_refl _), setRow_heap _ _ _ _ _ _ (heap_alloc_new wr _)⟩ ?_
                    rintro W6 ⟨hbW, hyW⟩
                    have HB6 := Lib.hid (HB.out.trans (hbW.mono (Nat.le_trans HSZ.out HB.out.size)))
                    have HS6 := Lib.hid (show w.heap.size + 1 ≤ W6.heap.size from Nat.le_trans HSZ.out HB6.out.size)
                    have y0 : W6.cell? ⟨wr.heap.size, 0, none⟩ = some (.int .i64 p) := by rw [cell_of_row _ _ _ _ 37 (0, 0) hyW]; rfl
                    have y1 : W6.cell? ⟨wr.heap.size, 1, none⟩ = some (.int .i64 q) := by rw [cell_of_row _ _ _ _ 37 (0, 0) hyW]; rfl
                    have y2 : W6.cell? ⟨wr.heap.size, 2, none⟩ = some (.int .i64 r) := by rw [cell_of_row _ _ _ _ 37 (0, 0) hyW]; rfl
                    have y3 : W6.cell? ⟨wr.heap.size, 3, none⟩ = some (.int .i64 s) := by rw [cell_of_row _ _ _ _ 37 (0, 0) hyW]; rfl
                    have y4 : W6.cell? ⟨wr.heap.size, 4, none⟩ = some (.int .i64 t) := by rw [cell_of_row _ _ _ _ 37 (0, 0) hyW]; rfl
                    have y5 : W6.cell? ⟨wr.heap.size, 5, none⟩ = some (.int .i64 z) := by rw [cell_of_row _ _ _ _ 37 (0, 0) hyW]; rfl
                    clear hbW hyW cb k0 k1 k2 k3 k4 k5
                    obtain ⟨e0, e1, e2, e3, e4⟩ := HC.out _ HB6.out
                    by_cases h4 : t < 1
                    · skip
                      have HNO := Lib.hid (all_no hx (show (openT b) [p, q, r, s, t, z] = false by simp [openT, key]; omega))
                      clear hx
                      go_wp2
                      go_ret
                      exact ⟨ret_bool (by rw [HM.out, HNO.out]; simp), HLO.out _ HB6.out⟩
                    by_cases h5 : z < 1
                    · skip
                      have HNO := Lib.hid (all_no hx (show (openT b) [p, q, r, s, t, z] = false by simp [openT, key]; omega))
                      clear hx
                      go_wp2
                      go_ret
                      exact ⟨ret_bool (by rw [HM.out, HNO.out]; simp), HLO.out _ HB6.out⟩
                    have HT1 := Lib.hid (fun W h => HTH.out q r W h)
                    by_cases h3 : s = 0
                    · subst h3
                      cases ht : thereT b q r with
                      | false =>
                        have HNO := Lib.hid (all_no hx (show (openT b) [p, q, r, 0, t, z] = false by simp [openT, key, ht]))
                        clear hx
                        rw [ht] at HT1
                        clear ht HTH
                        go_wp2_with (go_at_call 30; refine (HT1.out _ HB6.out).mono ?_; rintro e w2 ⟨rfl, hb2⟩; have HB7 := Lib.hid (HB6.out.trans (hb2.mono HS6.out)); clear hb2)
                        go_ret
                        exact ⟨ret_bool (by rw [HM.out, HNO.out]; simp), HLO.out _ HB7.out⟩
                      | true =>
                        have HNX := Lib.hid (all_next hx (show (openT b) [p, q, r, 0, t, z] = true by simp [openT, key, ht]; omega) HRI.out)
                        clear hx
                        rw [ht] at HT1
                        clear ht
                        go_wp2_with (go_at_call 30; refine (HT1.out _ HB6.out).mono ?_; rintro e w2 ⟨rfl, hb2⟩; have HB7 := Lib.hid (HB6.out.trans (hb2.mono HS6.out)); clear hb2)
                        go_roundw
                        case rel => exact ⟨j + 1, by go_num, by omega, HNX.out, HB7.out⟩
                        case measure => simp [intOf]; omega
                    by_cases h6 : s = 1
                    · subst h6
                      cases ht : thereT b q r with
                      | false =>
                        have HNO := Lib.hid (all_no hx (show (openT b) [p, q, r, 1, t, z] = false by simp [openT, key, ht]))
                        clear hx
                        rw [ht] at HT1
                        clear ht HTH
                        go_wp2_with (go_at_call 30; refine (HT1.out _ HB6.out).mono ?_; rintro e w2 ⟨rfl, hb2⟩; have HB7 := Lib.hid (HB6.out.trans (hb2.mono HS6.out)); clear hb2)
                        go_ret
                        exact ⟨ret_bool (by rw [HM.out, HNO.out]; simp), HLO.out _ HB7.out⟩
                      | true =>
                        have HNX := Lib.hid (all_next hx (show (openT b) [p, q, r, 1, t, z] = true by simp [openT, key, ht]; omega) HRI.out)
                        clear hx
                        rw [ht] at HT1
                        clear ht
                        go_wp2_with (go_at_call 30; refine (HT1.out _ HB6.out).mono ?_; rintro e w2 ⟨rfl, hb2⟩; have HB7 := Lib.hid (HB6.out.trans (hb2.mono HS6.out)); clear hb2)
                        go_roundw
                        case rel => exact ⟨j + 1, by go_num, by omega, HNX.out, HB7.out⟩
                        case measure => simp [intOf]; omega
                    · skip
                      have HNO := Lib.hid (all_no hx (show (openT b) [p, q, r, s, t, z] = false by simp [openT, key, h3, h6]))
                      clear hx
                      go_wp2
                      go_ret
                      exact ⟨ret_bool (by rw [HM.out, HNO.out]; simp), HLO.out _ HB6.out⟩
                  · have HA3 := Lib.hid (all_full (l := Los) (by have := HRI.out; rwa [show j = Los.length by omega] at this))
                    have HB5 := Lib.hid HB.out
                    clear HRI HB
                    go_wp2
                    clear hlt hj
                    go_ret
                    exact ⟨ret_bool (by rw [HM.out, HA0.out, HA1.out, HA2.out, HA3.out]; rfl), HLO.out _ HB5.out⟩
end Go.Proofs.Ytmndkbfjmamnfaa
