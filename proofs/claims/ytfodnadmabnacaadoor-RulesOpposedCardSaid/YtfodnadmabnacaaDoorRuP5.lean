/- The program's May: the contract. -/
import Derived.Test.YtfodnadmabnacaaDoorRuP4
namespace Go.Proofs.YtfodnadmabnacaaDoor
open Go.RowKit Base Base2

/-- What the array of rules seen has behind some steps. -/
def seenC (l : List StepT) : Array Value := ((List.range 24).map fun (k : Nat) => Value.bool (!newS l (k : Int))).toArray
theorem seen_nil : seenC [] = #[.bool false, .bool false, .bool false, .bool false, .bool false, .bool false, .bool false, .bool false, .bool false, .bool false, .bool false, .bool false, .bool false, .bool false, .bool false, .bool false, .bool false, .bool false, .bool false, .bool false, .bool false, .bool false, .bool false, .bool false] := rfl
theorem seen_size (l : List StepT) : (seenC l).size = 24 := by simp [seenC]
theorem seen_at (l : List StepT) (k : Nat) (h : k < 24) : (seenC l)[k]? = some (.bool (!newS l (k : Int))) := by
  unfold seenC
  rw [List.getElem?_toArray, List.getElem?_map, List.getElem?_range h]; rfl
theorem seen_set {l : List StepT} {i k : Nat} {s : StepT} (h : l[i]? = some s) (hk : s.r = (k : Int)) : (seenC (l.take i)).setIfInBounds k (.bool true) = seenC (l.take (i + 1)) := by
  apply Array.ext_getElem?
  intro j
  rw [Array.getElem?_setIfInBounds, seen_size]
  by_cases hj : j < 24
  · rw [seen_at _ j hj, seen_at _ j hj, new_next h, hk]
    by_cases e : k = j
    · subst e; simp [hj]
    · have : ((k : Int) != (j : Int)) = true := by rw [bne_iff_ne]; omega
      rw [if_neg e, this, Bool.and_true]
  · have e1 : (seenC (l.take i))[j]? = none := Array.getElem?_eq_none (by rw [seen_size]; omega)
    have e2 : (seenC (l.take (i + 1)))[j]? = none := Array.getElem?_eq_none (by rw [seen_size]; omega)
    rw [e1, e2]
    by_cases e : k = j
    · subst e; simp [hj]
    · rw [if_neg e]
set_option maxRecDepth 100000 in
set_option maxHeartbeats 8000000 in
theorem may16 (a : Option Addr) (c : Nat) (l : List StepT) (w : World) (hK : KAll w) (hr : StepsAt w a l) (hl : l.length ≤ 60) (hcp : l.length ≤ c) (hok : ∀ s ∈ l, StepOk s) :
    Calls Tryd.prog 16 #[.slice a l.length c] w fun e w' => e = .returned (.bool (maySteps l)) ∧ Below w.heap.size w w' := by
  obtain ⟨n, hn⟩ : ∃ n, l.length = n := ⟨_, rfl⟩
  have hcpn : n ≤ c := by rw [← hn]; exact hcp
  have HN := Lib.hid hn
  have HR := Lib.hid hr
  have HKW := Lib.hid (fun W (h : Below w.heap.size w W) => k_keep _ _ hK h)
  have HOKS := Lib.hid hok
  obtain ⟨W1, hW1⟩ : ∃ z, w.alloc (.cells #[.bool false, .bool false, .bool false, .bool false, .bool false, .bool false, .bool false, .bool false, .bool false, .bool false, .bool false, .bool false, .bool false, .bool false, .bool false, .bool false, .bool false, .bool false, .bool false, .bool false, .bool false, .bool false, .bool false, .bool false] 54) = z := ⟨_, rfl⟩
  have hb1 : Below w.heap.size w W1 := by rw [← hW1]; exact (Below.refl _ _).alloc (Nat.le_refl _) _
  have hz1 : W1.heap[w.heap.size]? = some (.cells (seenC (l.take 0)) 54 (0, 0)) := by rw [← hW1]; exact heap_alloc_new w _
  have HB1 := Lib.hid hb1
  have HZ1 := Lib.hid hz1
  rw [hn] at hl ⊢
  clear hr hn hok hK hb1 hz1 hcp
  go_enter Tryd.func16, Tryd.ntmps16
  go_wp2
  (try rw [hW1])
  clear hW1
  go_loopw [8] (fun vi W => ∃ (i : Nat), vi = .int .i64 (i : Int) ∧ i ≤ n ∧ (List.range i).all (okAt l) = true ∧ Below w.heap.size w W ∧ W.heap[w.heap.size]? = some (.cells (seenC (l.take i)) 54 (0, 0))) (fun vi _ => n - (intOf vi).toNat)
  case atStart => exact ⟨0, rfl, Nat.zero_le _, rfl, HB1.out, HZ1.out⟩
  case round =>
    obtain ⟨i, rfl, hi, hall, hlo, hsn⟩ := hrel
    have HLO := Lib.hid hlo
    have HAL := Lib.hid hall
    have HSN := Lib.hid hsn
    clear hlo hall hsn HB1 HZ1
    by_cases hlt : i < n
    · obtain ⟨s, hx⟩ : ∃ s, l[i]? = some s := ⟨l[i]'(by rw [HN.out]; exact hlt), by simp [HN.out, hlt]⟩
      have HSO := Lib.hid (HOKS.out s (List.mem_of_getElem? hx))
      obtain ⟨b0, off, rfl, hcs⟩ := HR.out.at hx
      obtain ⟨k0, k1, k2, k3⟩ := hcs i s hx wr HLO.out
      have HX := Lib.hid hx
      have HOK := Lib.hid (okAt_some hx)
      have HNO := Lib.hid (fun h => may_no (l := l) (i := i) (by rw [HN.out]; exact hlt) h)
      have HSS := Lib.hid (fun k (h : s.r = ((k : Nat) : Int)) => seen_set hx h)
      rw [HN.out] at HOK
      clear hcs hx
      obtain ⟨r, x, y, ov⟩ := s
      dsimp only at k0 k1 k2 k3 HOK HSS
      go_upto_region 5 with (fail)
      obtain ⟨w4, hw4⟩ : ∃ z, wr.alloc (.cells #[.int .i64 r, .int .i64 x, .int .i64 y, .bool ov] 23) = z := ⟨_, rfl⟩
      have hb4 : Below wr.heap.size wr w4 := by rw [← hw4]; exact (Below.refl _ _).alloc (Nat.le_refl _) _
      have hz4 : w4.heap[wr.heap.size]? = some (.cells #[.int .i64 r, .int .i64 x, .int .i64 y, .bool ov] 23 (0, 0)) := by rw [← hw4]; exact heap_alloc_new wr _
      have HB4 := Lib.hid hb4
      have HZ4 := Lib.hid hz4
      have HS4 := Lib.hid ((hb4.block _ (blk_ltR HSN.out)).trans HSN.out)
      obtain ⟨q0, q1, q2, q3⟩ := cells4S hz4
      rw [hw4]
      have HKN := Lib.hid (known24 r w4 HSO.out.1)
      clear hw4 hb4 hz4 k0 k1 k2 k3
      by_cases h1 : r < 1
      · have HM := Lib.hid (HNO.out (by rw [HOK.out, one_r1 (s := ⟨r, x, y, ov⟩) h1]; rfl))
        rw [show (decide (1 ≤ r) && decide (r ≤ 23)) = false by rw [decide_eq_false (by omega)]; rfl] at HKN
        go_wp2_with (go_at_call 24; refine HKN.out.mono ?_; rintro e w5 ⟨rfl, rfl⟩)
        go_ret
        exact ⟨by rw [HM.out]; rfl, HLO.out.trans (HB4.out.mono HLO.out.size)⟩
      by_cases h2 : 23 < r
      · have HM := Lib.hid (HNO.out (by rw [HOK.out, one_r2 (s := ⟨r, x, y, ov⟩) h2]; rfl))
        rw [show (decide (1 ≤ r) && decide (r ≤ 23)) = false by rw [decide_eq_false (show ¬ r ≤ 23 by omega), Bool.and_false]] at HKN
        go_wp2_with (go_at_call 24; refine HKN.out.mono ?_; rintro e w5 ⟨rfl, rfl⟩)
        go_ret
        exact ⟨by rw [HM.out]; rfl, HLO.out.trans (HB4.out.mono HLO.out.size)⟩
      rw [show (decide (1 ≤ r) && decide (r ≤ 23)) = true by rw [decide_eq_true (by omega), decide_eq_true (by omega)]; rfl] at HKN
      rw [one_r3 (s := ⟨r, x, y, ov⟩) (by show 1 ≤ r; omega) (by show r ≤ 23; omega)] at HOK
      dsimp only at HOK
      obtain ⟨k, rfl⟩ := Int.eq_ofNat_of_zero_le (show 0 ≤ r by omega)
      have gk1 : (k : Int) < 24 := by omega
      have gk2 : k < 24 := by omega
      obtain ⟨sn, hsnn⟩ : ∃ z, newS (l.take i) (k : Int) = z := ⟨_, rfl⟩
      have p0 : w4.cell? ⟨w.heap.size, k, none⟩ = some (.bool (!sn)) := by rw [cell_of_row _ _ _ _ _ _ HS4.out, seen_at _ _ gk2, hsnn]
      have p1 := free_of_blkN HS4.out k
      rw [hsnn] at HOK
      clear h1 h2 hsnn
      cases sn with
      | false =>
        have HM := Lib.hid (HNO.out (by rw [HOK.out, Bool.and_false]))
        go_wp2_with (go_at_call 24; refine HKN.out.mono ?_; rintro e w5 ⟨rfl, rfl⟩)
        go_ret
        exact ⟨by rw [HM.out]; rfl, HLO.out.trans (HB4.out.mono HLO.out.size)⟩
      | true =>
        go_upto_region 8 with (go_at_call 24; refine HKN.out.mono ?_; rintro e w5 ⟨rfl, rfl⟩)
        have hne : wr.heap.size ≠ w.heap.size := Nat.ne_of_gt (blk_ltR HSN.out)
        refine at_world (Φ := fun W => Below w.heap.size w W ∧ W.heap[w.heap.size]? = some (.cells (seenC (l.take (i + 1))) 54 (0, 0)) ∧ W.heap[wr.heap.size]? = some (.cells #[.int .i64 (k : Int), .int .i64 x, .int .i64 y, .bool ov] 23 (0, 0))) ⟨(HLO.out.trans (HB4.out.mono HLO.out.size)).setCell (p := ⟨w.heap.size, k, none⟩) (Nat.le_refl _) _, (set_blkN HS4.out k (.bool true)).trans (by rw [HSS.out k rfl]), (heap_setCell_ne _ hne).trans HZ4.out⟩ ?_
        clear hne HB4 HS4 HZ4 q0 q1 q2 q3 p0 p1 HKN
        rintro w6 ⟨hlo6, hs6, hz6⟩
        have HL6 := Lib.hid hlo6
        have HS6 := Lib.hid hs6
        have HZ6 := Lib.hid hz6
        obtain ⟨q0, q1, q2, q3⟩ := cells4S hz6
        clear hlo6 hs6 hz6
        obtain ⟨gx, hgx⟩ : ∃ z, (x != 0) = z := ⟨_, rfl⟩
        obtain ⟨gy, hgy⟩ : ∃ z, (y != 0) = z := ⟨_, rfl⟩
        rw [hgx, hgy] at HOK
        go_cut [37] from 26 to 36 (fun s37 wx => s37 = .bool (ov && (gx || gy)) ∧ wx = w6)
        case first =>
          cases ov with
          | false =>
            go_wp2
            go_meet
            exact ⟨rfl, rfl⟩
          | true =>
            cases gx with
            | true =>
              go_wp2
              go_meet
              exact ⟨rfl, rfl⟩
            | false =>
              cases gy with
              | true =>
                go_wp2
                go_meet
                exact ⟨rfl, rfl⟩
              | false =>
                go_wp2
                go_meet
                exact ⟨rfl, rfl⟩
        case rest =>
          obtain ⟨rfl, rfl⟩ := hcut
          clear hgx hgy
          generalize (ov && (gx || gy)) = bad at *
          cases bad with
          | true =>
            have HM := Lib.hid (HNO.out (by rw [HOK.out]; rfl))
            go_wp2
            go_ret
            exact ⟨by rw [HM.out]; rfl, HL6.out⟩
          | false =>
            rw [show (!false) = true from rfl, Bool.true_and, Bool.and_true] at HOK
            have HHS := Lib.hid (holds11 ⟨(k : Int), x, y, ov⟩ wc (HKW.out _ HL6.out) HSO.out)
            dsimp only at HHS
            obtain ⟨hs, hhs⟩ : ∃ z, holdS ⟨(k : Int), x, y, ov⟩ = z := ⟨_, rfl⟩
            rw [hhs] at HHS HOK
            clear hhs
            go_upto_region 10 with (fail)
            go_cut [47] from 38 to 46 (fun s47 wx => s47 = .bool (!hs && decide (i + 1 < n)) ∧ Below wc.heap.size wc wx)
            case first =>
              cases hs with
              | false =>
                by_cases h3 : i + 1 < n
                · have g3 : (i : Int) < (n : Int) - 1 := by omega
                  go_wp2_with (go_at_call 11; refine HHS.out.mono ?_; rintro e w5 ⟨rfl, hb5⟩; have HB5 := Lib.hid hb5; clear hb5)
                  go_meet
                  exact ⟨by rw [decide_eq_true h3]; rfl, HB5.out⟩
                · have g3 : ¬ (i : Int) < (n : Int) - 1 := by omega
                  go_wp2_with (go_at_call 11; refine HHS.out.mono ?_; rintro e w5 ⟨rfl, hb5⟩; have HB5 := Lib.hid hb5; clear hb5)
                  go_meet
                  exact ⟨by rw [decide_eq_false h3, decide_eq_false (show ¬ (i : Int) < (n : Int) - 1 by omega)]; rfl, HB5.out⟩
              | true =>
                go_wp2_with (go_at_call 11; refine HHS.out.mono ?_; rintro e w5 ⟨rfl, hb5⟩; have HB5 := Lib.hid hb5; clear hb5)
                go_meet
                exact ⟨rfl, HB5.out⟩
            case rest =>
              obtain ⟨rfl, hb5⟩ := hcut
              have HB5 := Lib.hid hb5
              clear hb5
              have e3 : (decide (n ≤ i + 1) || hs) = !(!hs && decide (i + 1 < n)) := by
                by_cases h3 : i + 1 < n
                · rw [decide_eq_true h3, decide_eq_false (by omega)]; cases hs <;> rfl
                · rw [decide_eq_false h3, decide_eq_true (by omega)]; cases hs <;> rfl
              rw [e3] at HOK
              clear e3
              generalize (!hs && decide (i + 1 < n)) = bad2 at *
              cases bad2 with
              | true =>
                have HM := Lib.hid (HNO.out (by rw [HOK.out]; rfl))
                go_wp2
                go_ret
                exact ⟨by rw [HM.out]; rfl, HL6.out.trans (HB5.out.mono HL6.out.size)⟩
              | false =>
                have HAN := Lib.hid (all_next HAL.out (by rw [HOK.out]; rfl))
                go_wp2
                go_roundw
                case rel => exact ⟨i + 1, by go_num, hlt, HAN.out, HL6.out.trans (HB5.out.mono HL6.out.size), (HB5.out.block _ (blk_ltR HS6.out)).trans HS6.out⟩
                case measure => simp [intOf]; omega
    · have hin : i = n := by omega
      have HM := Lib.hid (show maySteps l = true by rw [may_ok, HN.out, ← hin]; exact HAL.out)
      go_wp2
      go_ret
      exact ⟨by rw [HM.out]; rfl, HLO.out⟩
end Go.Proofs.YtfodnadmabnacaaDoor
