/- The walk of MarginTurned. -/
import Derived.Test.YtmndkbfjmamnfaaMgTurn
namespace Go.Proofs.Ytmndkbfjmamnfaa
open Go.RowKit Base Base2

set_option maxRecDepth 100000 in
set_option maxHeartbeats 8000000 in
theorem turned6 (v : Slots) (b : BookT) (acc rt : Int) (w : World) (hb : BookIn w v b) (_hc : CapOk v b) (hw : BookWf b) (_ia : in6 acc) (hrt : 0 ≤ rt ∧ rt ≤ 65535) :
    Calls Try.prog 6 #[.agg (cellsB v b), .int .i64 acc, .int .u16 rt] w fun e w' => e = .returned (.bool true) ∧ Below w.heap.size w w' := by
  obtain ⟨W0, hW0⟩ : ∃ x, w.alloc (.cells (cellsB v b) 27) = x := ⟨_, rfl⟩
  have hA : Below w.heap.size w W0 := by rw [← hW0]; exact (Below.refl _ w).alloc (Nat.le_refl _) _
  have hs0 : W0.heap.size = w.heap.size + 1 := by rw [← hW0]; simp
  have hg : BoxB W0 w.heap.size v b := by rw [← hW0]; exact BoxB.new w v b
  have HA := Lib.hid hA
  have HBI := Lib.hid (show BkIn w.heap.size v b W0 from ⟨hg, hb.below hA⟩)
  have HC := Lib.hid (Below.refl W0.heap.size W0)
  have HLB := Lib.hid (fun W (h : Below W0.heap.size W0 W) => load_book (HBI.out.box h))
  have HAL := Lib.hid (fun W => aliveM W)
  have HGR := Lib.hid (fun W => great8 v b W)
  cases hgr : greatT b with
  | true =>
    rw [hgr] at HGR
    clear hb hw hg hA hgr HBI _hc hrt
    generalize cellsB v b = CA at *
    go_enter Try.func6, Try.ntmps6
    go_wp2_with (first
      | ((with_reducible refine atLoad (ty := 27) (x := .tmp 3) rfl ?_); refine loadE (wanted_noneD rfl) 27 (.tmp 3) rfl _ (.agg CA) rfl (HLB.out _ HC.out) ?_)
      | (go_at_call 7; refine (HAL.out _).mono ?_; rintro e w1 ⟨rfl, hb⟩; replace HC := Lib.hid (HC.out.trans (hb.mono HC.out.size)); clear hb)
      | (go_at_call 8; refine (HGR.out _).mono ?_; rintro e w2 ⟨rfl, hb⟩; replace HC := Lib.hid (HC.out.trans (hb.mono HC.out.size)); clear hb))
    go_ret
    exact ⟨rfl, HA.out.trans (HC.out.mono HA.out.size)⟩
  | false =>
    have hk : BookOk 200 b := ok_of_great hgr hw
    rw [hgr] at HGR
    have HMY := Lib.hid (fun W (h : Below W0.heap.size W0 W) => may10 v b W (HBI.out.book h) (hk.mono (by omega)))
    cases hm : mayT b with
    | false =>
      rw [hm] at HMY
      clear hb hw hg hA hgr hm hk HBI _hc hrt
      generalize cellsB v b = CA at *
      go_enter Try.func6, Try.ntmps6
      go_wp2_with (first
      | (have hq := HQ.out; clear hq; (with_reducible refine atLoad (ty := 27) (x := .tmp 3) rfl ?_); refine loadE (by rfl) 27 (.tmp 3) rfl _ (.agg CA) rfl (HLB.out _ HC.out) ?_)
      | ((with_reducible refine atLoad (ty := 27) (x := .tmp 3) rfl ?_); refine loadE (wanted_noneD rfl) 27 (.tmp 3) rfl _ (.agg CA) rfl (HLB.out _ HC.out) ?_)
      | (go_at_call 7; refine (HAL.out _).mono ?_; rintro e w1 ⟨rfl, hb⟩; replace HC := Lib.hid (HC.out.trans (hb.mono HC.out.size)); clear hb)
      | (go_at_call 8; refine (HGR.out _).mono ?_; rintro e w2 ⟨rfl, hb⟩; replace HC := Lib.hid (HC.out.trans (hb.mono HC.out.size)); clear hb; have HQ := Lib.hid True.intro)
      | (go_at_call 11; refine (HMY.out _ HC.out).mono ?_; rintro e w3 ⟨rfl, hb⟩; replace HC := Lib.hid (HC.out.trans (hb.mono HC.out.size)); clear hb))
      go_ret
      exact ⟨rfl, HA.out.trans (HC.out.mono HA.out.size)⟩
    | true =>
      rw [hm] at HMY
      have HK := Lib.hid hk
      have HM := Lib.hid hm
      have HS0 := Lib.hid hs0
      have HRT := Lib.hid hrt
      clear hb hw hg hA hgr hm hk _hc hrt hs0
      generalize hCA : cellsB v b = CA at *
      have HCA := Lib.hid hCA
      clear hCA
      go_enter Try.func6, Try.ntmps6
      go_upto_region 5 with (first
      | (have hq := HQ.out; clear hq; (with_reducible refine atLoad (ty := 27) (x := .tmp 3) rfl ?_); refine loadE (by rfl) 27 (.tmp 3) rfl _ (.agg CA) rfl (HLB.out _ HC.out) ?_)
      | ((with_reducible refine atLoad (ty := 27) (x := .tmp 3) rfl ?_); refine loadE (wanted_noneD rfl) 27 (.tmp 3) rfl _ (.agg CA) rfl (HLB.out _ HC.out) ?_)
      | (go_at_call 7; refine (HAL.out _).mono ?_; rintro e w1 ⟨rfl, hb⟩; replace HC := Lib.hid (HC.out.trans (hb.mono HC.out.size)); clear hb)
      | (go_at_call 8; refine (HGR.out _).mono ?_; rintro e w2 ⟨rfl, hb⟩; replace HC := Lib.hid (HC.out.trans (hb.mono HC.out.size)); clear hb; have HQ := Lib.hid True.intro)
      | (go_at_call 11; refine (HMY.out _ HC.out).mono ?_; rintro e w3 ⟨rfl, hb⟩; replace HC := Lib.hid (HC.out.trans (hb.mono HC.out.size)); clear hb))
      obtain ⟨c0, c1, c2, c3, c4⟩ := (HBI.out.box HC.out).cells
      go_upto_region 7 with (fail)
      clear c0 c1 c2 c3 c4
      obtain ⟨W1, hW1⟩ : ∃ x, (w3.alloc (.cells #[.slice v.h b.hs.length v.ch, .slice none 0 0, .slice v.o b.os.length v.co, .slice v.r b.rs.length v.cr, .int .i64 b.co] 27)).alloc (.cells #[.slice v.h b.hs.length v.ch, .slice none 0 0, .slice v.o b.os.length v.co, .slice v.r b.rs.length v.cr, .int .i64 b.co] 27) = x := ⟨_, rfl⟩
      have h2 := two_new (W := w3) (O := .cells #[.slice v.h b.hs.length v.ch, .slice none 0 0, .slice v.o b.os.length v.co, .slice v.r b.rs.length v.cr, .int .i64 b.co] 27) (P := .cells #[.slice v.h b.hs.length v.ch, .slice none 0 0, .slice v.o b.os.length v.co, .slice v.r b.rs.length v.cr, .int .i64 b.co] 27)
      have h31 : Below w3.heap.size w3 W1 := by rw [← hW1]; exact ((Below.refl _ _).alloc (Nat.le_refl _) _).alloc (by simp) _
      have hs1 : W1.heap.size = w3.heap.size + 2 := by rw [← hW1]; simp
      rw [hW1] at h2 ⊢
      have h01 : Below W0.heap.size W0 W1 := HC.out.trans (h31.mono HC.out.size)
      have hw3 := HC.out.size
      have HGC := Lib.hid (fun W (h : Below (w3.heap.size + 1) W1 W) => show BoxB W w3.heap.size (⟨v.h, none, v.o, v.r, v.ch, 0, v.co, v.cr⟩ : Slots) (bareB b) from (h.block _ (by omega)).trans h2.1)
      have HL0 := Lib.hid (fun W (h : Below (w3.heap.size + 1) W1 W) => show Below W0.heap.size W0 W from h01.trans (h.mono (by omega)))
      have HTS := Lib.hid (show TurnS (w3.heap.size + 1) W1 (.slice v.h b.hs.length v.ch) (.slice v.o b.os.length v.co) (.slice v.r b.rs.length v.cr) (.int .i64 b.co) [] (.slice none 0 0) W1 from ⟨h2.2, SetSt.nil (by omega)⟩)
      have HS1 := Lib.hid hs1
      have HW3 := Lib.hid hw3
      clear hW1 h2 h31 hs1 h01 hw3 HC HLB HGR HMY HAL HQ hW0
      obtain ⟨n, hn⟩ : ∃ n, b.ss.length = n := ⟨_, rfl⟩
      have HN := Lib.hid hn
      have hle : n ≤ 200 := by rw [← hn]; exact HK.out.ss.1
      have HCE := Lib.hid (fun W (h : Below (w3.heap.size + 1) W1 W) => show W.cell? ⟨w.heap.size, 1, none⟩ = some (.slice v.s n v.cs) from by rw [← HN.out]; exact (HBI.out.box (HL0.out W h)).cells.2.1)
      have HROW := Lib.hid HBI.out.inn.ss
      obtain ⟨i0, hi0, hz0, hz1, hz2⟩ := info_parts infoS
      clear hn
      obtain ⟨ca, hca⟩ : ∃ x : Value, x = .slice v.h b.hs.length v.ch := ⟨_, rfl⟩
      obtain ⟨cb, hcb⟩ : ∃ x : Value, x = .slice v.o b.os.length v.co := ⟨_, rfl⟩
      obtain ⟨cc, hcc⟩ : ∃ x : Value, x = .slice v.r b.rs.length v.cr := ⟨_, rfl⟩
      obtain ⟨cd, hcd⟩ : ∃ x : Value, x = .int .i64 b.co := ⟨_, rfl⟩
      rw [← hca, ← hcb, ← hcc, ← hcd] at HTS
      have HCS := Lib.hid (And.intro hca (And.intro hcb (And.intro hcc hcd)))
      clear hca hcb hcc hcd
      go_wp2
      go_loopw [9] (fun vi W => ∃ (i : Nat) (vs : Value), vi = .int .i64 (i : Int) ∧ i ≤ n ∧ (∀ x ∈ b.ss.take i, key 2 x ≠ -9223372036854775808) ∧ TurnS (w3.heap.size + 1) W1 ca cb cc cd ((b.ss.take i).map turnI) vs W) (fun vi _ => n - (intOf vi).toNat)
      case atStart => exact ⟨0, _, rfl, Nat.zero_le _, fun x hx => by simp at hx, by rw [List.take_zero, List.map_nil]; exact HTS.out⟩
      case round =>
        clear HTS
        obtain ⟨i, vs, rfl, hi, hno, hT⟩ := hrel
        have HT := Lib.hid hT
        have HNO := Lib.hid hno
        have c1 := HCE.out _ hT.st.lo
        clear hT hno
        by_cases hlt : i < n
        · obtain ⟨it, hx⟩ : ∃ x, b.ss[i]? = some x := ⟨b.ss[i]'(by rw [HN.out]; exact hlt), by simp [HN.out, hlt]⟩
          obtain ⟨s0, s1, s2, rfl⟩ := item3 (HK.out.ss.2 _ (List.mem_of_getElem? hx)).1
          have q64 : In64' s2 := key_in HK.out.ss (List.mem_of_getElem? hx) 2
          obtain ⟨b0, off, hvs, hb0, hcs⟩ := HROW.out.at hx
          have k0 := hcs wr (HL0.out _ HT.out.st.lo) 0 s0 rfl
          have k1 := hcs wr (HL0.out _ HT.out.st.lo) 1 s1 rfl
          have k2 := hcs wr (HL0.out _ HT.out.st.lo) 2 s2 rfl
          rw [Nat.add_zero] at k0
          rw [hvs] at c1
          clear hcs hb0
          by_cases he : s2 = -9223372036854775808
          · have g : (s2 == -9223372036854775808) = true := by rw [beq_iff_eq]; exact he
            subst he
            clear hx q64
            go_wp2
            go_ret
            exact ⟨rfl, HA.out.trans (((HL0.out _ HT.out.st.lo).trans (((Below.refl _ wr).alloc (Nat.le_refl _) _).mono (HL0.out _ HT.out.st.lo).size)).mono HA.out.size)⟩
          · have g : (s2 == -9223372036854775808) = false := by rw [beq_eq_false_iff_ne]; exact he
            unfold In64' at q64
            have l1 : -9223372036854775807 ≤ s2 := by omega
            have l2 : s2 ≤ 9223372036854775807 := q64.2
            have HTK := Lib.hid (show (b.ss.take (i + 1)).map turnI = (b.ss.take i).map turnI ++ [[s0, s1, -s2]] by rw [take_one hx, List.map_append]; rfl)
            have HN2 := Lib.hid (show ∀ x ∈ b.ss.take (i + 1), key 2 x ≠ -9223372036854775808 from fun x hm => by
              rw [take_one hx] at hm
              rcases List.mem_append.1 hm with hm | hm
              · exact HNO.out x hm
              · rw [List.mem_singleton.1 hm]; exact he)
            clear hx q64 he
            go_upto_region 14 with (fail)
            obtain ⟨w5, hw5⟩ : ∃ x, wr.alloc (.cells #[.int .i64 s0, .int .i64 s1, .int .i64 (-s2)] 43) = x := ⟨_, rfl⟩
            have hz5 : w5.heap[wr.heap.size]? = some (.cells #[.int .i64 s0, .int .i64 s1, .int .i64 (-s2)] 43 (0, 0)) := by rw [← hw5]; exact heap_alloc_new wr _
            have hb5 : Below wr.heap.size wr w5 := by rw [← hw5]; exact (Below.refl _ _).alloc (Nat.le_refl _) _
            rw [hw5]
            have HT5 := Lib.hid (HT.out.below hb5)
            have q0 : w5.cell? ⟨wr.heap.size, 0, none⟩ = some (.int .i64 s0) := by rw [cell_of_row _ _ _ _ _ _ hz5]; rfl
            have q1 : w5.cell? ⟨wr.heap.size, 1, none⟩ = some (.int .i64 s1) := by rw [cell_of_row _ _ _ _ _ _ hz5]; rfl
            have q2 : w5.cell? ⟨wr.heap.size, 2, none⟩ = some (.int .i64 (-s2)) := by rw [cell_of_row _ _ _ _ _ _ hz5]; rfl
            have d1 : w5.cell? ⟨w3.heap.size + 1, 1, none⟩ = some vs := by rw [cell_of_row _ _ _ _ _ _ HT5.out.bx]; rfl
            have hlo : ((b.ss.take i).map turnI).length ≤ 200 := by rw [List.length_map, List.length_take, HN.out]; omega
            clear hw5 hz5 hb5 k0 k1 k2 c1 HT
            generalize (b.ss.take i).map turnI = oo at *
            have b1 : oo.length + 1 ≤ maxLen := by unfold maxLen; omega
            have b2 : (oo.length + 1) * 24 ≤ 140737488355328 := by omega
            go_wp2_with (at_builtin; (refine wpList_append_own _ rfl _ _ 23 rfl (w3.heap.size + 1) 43 i0 (.agg #[.int .i64 0, .int .i64 0, .int .i64 0]) 3 24 Try.underlying23 hi0 hz0 hz1 hz2 rfl (by decide) _ _ _ rfl (HT5.out.st.row.alloc _) ⟨w5.heap.size, 0, none⟩ 1 1 [.int .i64 s0, .int .i64 s1, .int .i64 (-s2)] rfl rfl (new_cells _ [.int .i64 s0, .int .i64 s1, .int .i64 (-s2)] _) (one_items [s0, s1, -s2]) b1 b2 (Nat.le_trans HT5.out.st.sz (by simp)) ?_; intro v' w6 hown hgrow _; obtain ⟨g', cap', rfl⟩ := ownsRow_succ hown; have hp := HT5.out.put (x := [s0, s1, -s2]) hown hgrow; have d2 : w6.cell? ⟨w3.heap.size + 1, 1, none⟩ = some vs := (by rw [cell_of_row _ _ _ _ _ _ hp.1]; rfl); have f2 : w6.frozen? ⟨w3.heap.size + 1, 1, none⟩ = false := free_of_blkN hp.1 1; have HP := Lib.hid hp.2; clear hown hgrow hp))
            go_roundw
            case rel => exact ⟨i + 1, _, by go_num, hlt, HN2.out, by rw [HTK.out]; exact HP.out⟩
            case measure => simp [intOf]; omega
        · rw [List.take_of_length_le (by rw [HN.out]; omega)] at HT HNO
          obtain ⟨a2, c2, hvs, hrow⟩ := rows_own (by decide : 0 < 3) (fun x hx => by obtain ⟨y, _, rfl⟩ := List.mem_map.1 hx; rfl) HT.out.st.row
          subst hvs
          obtain ⟨rfl, rfl, rfl, rfl⟩ := HCS.out
          have hlW := HL0.out _ HT.out.st.lo
          have hin := HBI.out.book hlW
          have HB := Lib.hid (show BkIn w.heap.size v b wr from ⟨HBI.out.box hlW, hin⟩)
          have HD := Lib.hid (show BkIn (w3.heap.size + 1) (⟨v.h, a2, v.o, v.r, v.ch, c2, v.co, v.cr⟩ : Slots) (turnB b) wr from ⟨HT.out.bx, ⟨hin.hs, hrow, hin.os, hin.rs⟩⟩)
          have HCC := Lib.hid (show BkIn w3.heap.size (⟨v.h, none, v.o, v.r, v.ch, 0, v.co, v.cr⟩ : Slots) (bareB b) wr from ⟨HGC.out _ HT.out.st.lo, ⟨hin.hs, .inl rfl, hin.os, hin.rs⟩⟩)
          have HLW := Lib.hid (HA.out.trans (hlW.mono HA.out.size))
          have hk2 := HK.out.mono (show 200 ≤ 2000 by omega)
          have HC := Lib.hid (Below.refl wr.heap.size wr)
          have HL1 := Lib.hid (fun W (h : Below wr.heap.size wr W) => load_book (HB.out.box h))
          have HL2 := Lib.hid (fun W (h : Below wr.heap.size wr W) => load_book (HD.out.box h))
          have HL3 := Lib.hid (fun W (h : Below wr.heap.size wr W) => load_book (HCC.out.box h))
          have hrm : In64' (rt % 1001) := by unfold In64'; omega
          have HN1 := Lib.hid (fun W (h : Below wr.heap.size wr W) => pneed10 v b acc 0 0 (rt % 1001) W (HB.out.book h) hk2 (by unfold In64'; omega) (by unfold In64'; omega) hrm)
          have HN2 := Lib.hid (fun W (h : Below wr.heap.size wr W) => pneed10 (⟨v.h, a2, v.o, v.r, v.ch, c2, v.co, v.cr⟩ : Slots) (turnB b) acc 0 0 (rt % 1001) W (HD.out.book h) (ok_turn hk2 HNO.out) (by unfold In64'; omega) (by unfold In64'; omega) hrm)
          have HEQ := Lib.hid (fun W (h : Below wr.heap.size wr W) => pequity9 (⟨v.h, none, v.o, v.r, v.ch, 0, v.co, v.cr⟩ : Slots) (bareB b) acc W (HCC.out.book h) (ok_bare hk2))
          obtain ⟨hp, hr, hs, hv⟩ := cash_form hk2.hs acc
          have HHO := Lib.hid (fun W (h : Below wr.heap.size wr W) => rholder18 v b acc W (HB.out.book h) hk2.hs)
          rw [hv] at HHO
          rw [HM.out] at HN1
          rw [may_turn, HM.out, exT_turn] at HN2
          rw [may_bare HM.out, eq_bare, (fit_64 (cash_in hk2.hs acc)).1, (fit_64 (cash_in hk2.hs acc)).2, if_pos rfl, Bool.true_and] at HEQ
          rw [HCA.out] at HL1 HN1 HHO
          generalize hCD : cellsB (⟨v.h, a2, v.o, v.r, v.ch, c2, v.co, v.cr⟩ : Slots) (turnB b) = CD at *
          generalize hCC : cellsB (⟨v.h, none, v.o, v.r, v.ch, 0, v.co, v.cr⟩ : Slots) (bareB b) = CC at *
          generalize cashOf b acc = ch at *
          rw [if_pos rfl, Bool.true_and] at HN1 HN2
          generalize (if mayB (exT b acc 0 0) (rt % 1001) then fitV (shr (exT b acc 0 0) (rt % 1001)) else 0) = a3 at *
          generalize (mayB (exT b acc 0 0) (rt % 1001) && fitB (shr (exT b acc 0 0) (rt % 1001))) = a4 at *
          generalize (findL (is1 acc) b.hs).isSome = ok at *
          have hr1 := HRT.out.1
          have hr2 := HRT.out.2
          clear hv hk2 hin hrow hlW hCD hCC HT
          go_upto_region 19 with (first
            | (have hq := HQ3.out; clear hq; (with_reducible refine atLoad (ty := 27) (x := .tmp 3) rfl ?_); refine loadE (wanted_noneD rfl) 27 (.tmp 3) rfl _ (.agg CA) rfl (HL1.out _ HC.out) ?_)
            | (have hq := HQ2.out; clear hq; (with_reducible refine atLoad (ty := 27) (x := .tmp 7) rfl ?_); refine loadE (wanted_noneD rfl) 27 (.tmp 7) rfl _ (.agg CC) rfl (HL3.out _ HC.out) ?_)
            | (have hq := HQ1.out; clear hq; (with_reducible refine atLoad (ty := 27) (x := .tmp 8) rfl ?_); refine loadE (wanted_noneD rfl) 27 (.tmp 8) rfl _ (.agg CD) rfl (HL2.out _ HC.out) ?_)
            | ((with_reducible refine atLoad (ty := 27) (x := .tmp 3) rfl ?_); refine loadE (wanted_noneD rfl) 27 (.tmp 3) rfl _ (.agg CA) rfl (HL1.out _ HC.out) ?_)
            | (have hq := HQ1.out; clear hq; go_at_call 10; refine (HN2.out _ HC.out).mono ?_; rintro e w5 ⟨rfl, hb⟩; replace HC := Lib.hid (HC.out.trans (hb.mono HC.out.size)); clear hb; have HQ2 := Lib.hid True.intro)
            | (go_at_call 10; refine (HN1.out _ HC.out).mono ?_; rintro e w4 ⟨rfl, hb⟩; replace HC := Lib.hid (HC.out.trans (hb.mono HC.out.size)); clear hb; have HQ1 := Lib.hid True.intro)
            | (go_at_call 9; refine (HEQ.out _ HC.out).mono ?_; rintro e w6 ⟨rfl, hb⟩; replace HC := Lib.hid (HC.out.trans (hb.mono HC.out.size)); clear hb; have HQ3 := Lib.hid True.intro)
            | (go_at_call 18; refine (HHO.out _ HC.out).mono ?_; rintro e w7 ⟨rfl, hb⟩; have HC7 := Lib.hid (HC.out.trans (hb.mono HC.out.size)); clear hb))
          go_wp2
          go_ret
          exact ⟨rfl, HLW.out.trans ((HC7.out.trans (((Below.refl _ w7).alloc (Nat.le_refl _) _).mono HC7.out.size)).mono HLW.out.size)⟩
end Go.Proofs.Ytmndkbfjmamnfaa
