/- The program's Reach: the contract. -/
import Derived.Test.YtmndkbfjmamnfaaMgP5
import Derived.Test.YtmndkbfjmamnfaaMgRef4
namespace Go.Proofs.Ytmndkbfjmamnfaa
open Go.RowKit Go.Shelf Base Base2

attribute [local go_sem] Oper.semAt_some
theorem sign_yes {d : Int} (h : sideB d = true) (w : World) : Calls Try.prog 38 #[.int .i64 d] w fun e w' => e = .returned (.tuple #[.int .i64 (sgD d), .bool true]) ∧ w = w' := by
  have hd : d = 0 ∨ d = 1 := by unfold sideB at h; simpa using h
  rcases hd with rfl | rfl
  · go_enter Try.func38, Try.ntmps38
    go_wp2
    go_ret2
    exact ⟨rfl, rfl⟩
  · go_enter Try.func38, Try.ntmps38
    go_wp2
    go_ret2
    exact ⟨rfl, rfl⟩
theorem sign_no {d : Int} (h : sideB d = false) (w : World) : Calls Try.prog 38 #[.int .i64 d] w fun e w' => e = .returned (.tuple #[.int .i64 0, .bool false]) ∧ w = w' := by
  have h0 : (d == 0) = false := by unfold sideB at h; simp at h; simp [h.1]
  have h1 : (d == 1) = false := by unfold sideB at h; simp at h; simp [h.2]
  go_enter Try.func38, Try.ntmps38
  go_wp2
  go_ret2
  exact ⟨rfl, rfl⟩
set_option maxRecDepth 100000 in
set_option maxHeartbeats 8000000 in
theorem preach14 (v : Slots) (b : BookT) (acc sy d q : Int) (w : World) (hb : BookIn w v b) (hk : BookOk 2000 b) (hq : In64' q) :
    Calls Try.prog 14 #[.agg (cellsB v b), .int .i64 acc, .int .i64 sy, .int .i64 d, .int .i64 q] w fun e w' => e = .returned (.tuple #[.int .i64 (if sideB d && mayT b then fitV (farT b acc sy d q) else 0), .bool (sideB d && mayT b && fitB (farT b acc sy d q))]) ∧ Below w.heap.size w w' := by
  obtain ⟨W0, hW0⟩ : ∃ x, ((w.alloc (.cells (cellsB v b) 27)).alloc (.cells #[.int .i64 sy] 2)).alloc (.cells #[.int .i64 d] 3) = x := ⟨_, rfl⟩
  have h3 := three_alloc (w := w) (A := .cells (cellsB v b) 27) (B := .cells #[.int .i64 sy] 2) (C := .cells #[.int .i64 d] 3)
  rw [hW0] at h3
  obtain ⟨hg, x1, x2, hA⟩ := h3
  have HA := Lib.hid hA
  have HLB := Lib.hid (fun W (h : Below W0.heap.size W0 W) => load_book (BoxB.below hg h (blk_ltK hg)))
  have HSY := Lib.hid (fun W (h : Below W0.heap.size W0 W) => show Boxed W (w.heap.size + 1) 2 (.int .i64 sy) from (h.block _ (blk_ltK x1)).trans x1)
  have HSD := Lib.hid (fun W (h : Below W0.heap.size W0 W) => show Boxed W (w.heap.size + 1 + 1) 3 (.int .i64 d) from (h.block _ (blk_ltK x2)).trans x2)
  have HMY := Lib.hid (pmay9 v b W0 (hb.below hA) hk)
  obtain ⟨fe, hfe⟩ : ∃ x, Ending.returned (.tuple #[.int .i64 (if sideB d && mayT b then fitV (farT b acc sy d q) else 0), .bool (sideB d && mayT b && fitB (farT b acc sy d q))]) = x := ⟨_, rfl⟩
  have HFE := Lib.hid hfe
  rw [hfe]
  have cs := (HSY.out W0 (Below.refl _ _)).cell
  have cd := (HSD.out W0 (Below.refl _ _)).cell
  clear hfe x1 x2
  cases hsd : sideB d with
  | false =>
    rw [hsd, Bool.false_and, if_neg (by simp), Bool.false_and] at HFE
    have HSG := Lib.hid (sign_no hsd)
    clear hb hk hg hA hsd HMY hq
    generalize cellsB v b = CA at *
    go_enter Try.func14, Try.ntmps14
    go_wp2_with (go_at_call 38; refine (HSG.out _).mono ?_; rintro e w1 ⟨rfl, hw1⟩; subst hw1)
    go_ret2
    exact ⟨HFE.out, HA.out⟩
  | true =>
    rw [hsd, Bool.true_and] at HFE
    have HSG := Lib.hid (sign_yes hsd)
    cases hm : mayT b with
    | false =>
      rw [hm, if_neg (by simp), Bool.false_and] at HFE
      rw [hm] at HMY
      clear hb hk hg hA hm hq hsd
      generalize cellsB v b = CA at *
      go_enter Try.func14, Try.ntmps14
      go_wp2_with (first
        | (go_at_call 38; refine (HSG.out _).mono ?_; rintro e w1 ⟨rfl, hw1⟩; subst hw1)
        | ((with_reducible refine atLoad (ty := 27) (x := .tmp 5) rfl ?_); refine loadE (by rfl) 27 (.tmp 5) rfl _ (.agg CA) rfl (HLB.out _ (Below.refl _ _)) ?_)
        | (go_at_call 20; refine HMY.out.mono ?_; rintro e w1 ⟨rfl, hb1⟩; have HB1 := Lib.hid hb1; clear hb1))
      go_ret2
      exact ⟨HFE.out, HA.out.trans (HB1.out.mono HA.out.size)⟩
    | true =>
      rw [hm, if_pos rfl, Bool.true_and] at HFE
      rw [hm] at HMY
      obtain ⟨_, _, r3⟩ := may_rises hm
      have HOR := Lib.hid (fun W => orders27 v b acc W)
      have HST := Lib.hid (fun W (h : Below w.heap.size w W) => show Calls Try.prog 39 #[.agg (cellsB v b), .int .i64 acc, .int .i64 sy] W fun e w' => e = .returned (.int .i64 (stakeOf b acc sy)) ∧ Below W.heap.size W w' from progStake v b acc sy W (hb.below h) hk.ss r3)
      have HBI := Lib.hid hb
      have HK := Lib.hid hk
      have HQ := Lib.hid hq
      have st64 := stake_in hk.ss acc sy
      have HZ0 := Lib.hid (prod_nat st64 (sg_in d))
      have HFA := Lib.hid (show farT b acc sy d q = stakeOf b acc sy * sgD d + sumI (key 4) (ofSD sy d (ofAcc 1 acc b.os)) + q by unfold farT; rw [Int.mul_comm (sgD d)]; omega)
      have HADS := Lib.hid (fun W g (h : NumAt W g 54 0) => addMul17 g 0 (stakeOf b acc sy) (sgD d) W h st64 (sg_in d) (by rw [Int.zero_add]; exact (fine_of (by have := HZ0.out; omega)).in))
      rw [Int.zero_add] at HADS
      clear hb hk hm r3 hA hq st64 hsd
      generalize stakeOf b acc sy = st at *
      refine (callsIn_wide (n := 10)).1 ?_
      refine callsIn_of_wp_marks Try.func14 rfl trivial ?_ rfl
      simp only [Try.ntmps14, List.size_toArray, List.length_cons, List.length_nil, Nat.reduceAdd, Nat.reduceSub, Array.replicate_succ, Array.replicate_zero, List.push_toArray, List.append_toArray, List.nil_append, List.cons_append]
      generalize hCA : cellsB v b = CA at *
      have HCA := Lib.hid hCA
      clear hCA
      gi_wp2_with (first
        | (refine ⟨trivial, ?_⟩; gi_at_call 38; refine (callsIn_wide.2 (HSG.out _)).mono ?_; rintro e w1 ⟨rfl, hw1⟩; subst hw1)
        | (have hq := HB4.out; clear hq; (with_reducible refine atLoadIn (ty := 27) (x := .tmp 5) rfl ?_); refine loadEIn (wanted_noneD rfl) (fun _ _ => trivial) 27 (.tmp 5) rfl _ (.agg CA) rfl HL5.out ?_)
        | (have hq := HB1.out; clear hq; (with_reducible refine atLoadIn (ty := 27) (x := .tmp 5) rfl ?_); refine loadEIn (wanted_noneD rfl) (fun _ _ => trivial) 27 (.tmp 5) rfl _ (.agg CA) rfl (HLB.out _ (HB1.out.alloc HB1.out.size _)) ?_)
        | ((with_reducible refine atLoadIn (ty := 27) (x := .tmp 5) rfl ?_); refine loadEIn (by rfl) (fun _ _ => trivial) 27 (.tmp 5) rfl _ (.agg CA) rfl (HLB.out _ (Below.refl _ _)) ?_)
        | (refine ⟨trivial, ?_⟩; gi_at_call 20; refine (callsIn_wide.2 HMY.out).mono ?_; rintro e w1 ⟨rfl, hb1⟩; have HB1 := Lib.hid hb1; have c5 := (HSY.out _ (hb1.alloc hb1.size (.cells #[.int .u64 0, .int .u64 0, .int .u64 0] 54))).cell; clear hb1)
        | (refine ⟨trivial, ?_⟩; gi_at_call 39; refine (callsIn_wide.2 (HST.out _ (HA.out.trans ((HB1.out.alloc HB1.out.size _).mono HA.out.size)))).mono ?_; rintro e w3 ⟨rfl, hb3⟩; have HB3 := Lib.hid (show Below W0.heap.size W0 w3 from (HB1.out.alloc HB1.out.size _).trans (hb3.mono (by have := HB1.out.size; simp; omega))); have HN3 := Lib.hid (NumAt.below (num_new w1) hb3); clear hb3)
        | (refine ⟨trivial, ?_⟩; gi_at_call 23; refine (callsIn_wide.2 (HADS.out _ _ HN3.out)).mono ?_; rintro e w4 ⟨rfl, hn4, hg4⟩; have HN4 := Lib.hid hn4; have HB4 := Lib.hid (show Below W0.heap.size W0 w4 from HB3.out.grown hg4 HB3.out.size (fun k e => by cases e; exact HB1.out.size)); have HL5 := Lib.hid (HLB.out _ (HB4.out.alloc HB4.out.size (.cells #[.func (.func 21) #[.pointer (some ⟨w1.heap.size, 0, none⟩)] #[]] 55))); clear hn4 hg4)
        | (refine ⟨trivial, ?_⟩; gi_at_call 27; refine (callsIn_wide.2 (HOR.out _)).mono ?_; rintro e w6 ⟨rfl, hw6⟩; have HW6 := Lib.hid hw6; clear hw6))
      have h3 := three_alloc (w := w4) (A := .cells #[.func (.func 21) #[.pointer (some ⟨w1.heap.size, 0, none⟩)] #[]] 55) (B := .cells CA 27) (C := .cells #[.int .i64 acc] 2)
      rw [← HW6.out] at h3
      obtain ⟨x1, x2, x3, x4⟩ := h3
      have hgl : w1.heap.size < w4.heap.size := HN4.out.lt
      have hs6 : w6.heap.size = w4.heap.size + 3 := by rw [HW6.out]; simp
      have hw1 : W0.heap.size ≤ w1.heap.size := HB1.out.size
      have hww := HA.out.size
      have hw6 : Below W0.heap.size W0 w6 := HB4.out.trans (x4.mono HB4.out.size)
      have hsz6 := hw6.size
      have HSI := Lib.hid (show SumI w6.heap.size w1.heap.size w4.heap.size 55 (.func (.func 21) #[.pointer (some ⟨w1.heap.size, 0, none⟩)] #[]) W0 (st * sgD d) w6 from ⟨HN4.out.below x4, x1, hw6, Nat.le_refl _⟩)
      have HSQ := Lib.hid (orders_seq (RSum w1.heap.size) w v b HBI.out HK.out acc (w4.heap.size + 1) (w4.heap.size + 1 + 1) w6 (HA.out.trans (hw6.mono HA.out.size)) (by unfold BoxB; rw [HCA.out]; exact x2) x3 (fun k o h => by rw [h.1]; omega) ((RSum.no _).sub (by simp)))
      clear x1 x2 x3 x4 HLB HMY HSG HST HOR HBI HADS HB1 HB3 HN3 HN4 HB4 HL5 HW6 hg hW0 c5 cs cd
      refine range_kinds (gf := 53) (lb := #[.pointer (some ⟨w4.heap.size + 1, 0, none⟩), .pointer (some ⟨w4.heap.size + 1 + 1, 0, none⟩)]) (w := w6) rfl (enters_of Try.func53 (by kernel_rfl) rfl) HSQ.out (fun _ _ h => .inl h.cells) (Below.refl _ _) (fun _ => rfl)
        (fun pre W => (∃ s, pre ++ s = ofAcc 1 acc b.os) ∧ SumI w6.heap.size w1.heap.size w4.heap.size 55 (.func (.func 21) #[.pointer (some ⟨w1.heap.size, 0, none⟩)] #[]) W0 (st * sgD d + sumI (key 4) (ofSD sy d pre)) W) (fun _ _ _ => False) ?bi ?bx ?h0
        (fun pre x a' V => (∃ s, pre ++ [x] ++ s = ofAcc 1 acc b.os) ∧ SumI w6.heap.size w1.heap.size w4.heap.size 55 (.func (.func 21) #[.pointer (some ⟨w1.heap.size, 0, none⟩)] #[]) W0 (st * sgD d + sumI (key 4) (ofSD sy d pre)) V ∧ ∃ b0 u, aggI x = .agg u ∧ V.heap[b0]? = some (.cells u 37 (0, 0)) ∧ w6.heap.size ≤ b0 ∧ a' = ⟨#[.agg CA, .int .i64 acc, .int .i64 sy, .int .i64 d, .int .i64 q, .pointer (some ⟨w.heap.size, 0, none⟩), undef, .pointer (some ⟨w.heap.size + 1, 0, none⟩), .pointer (some ⟨w.heap.size + 1 + 1, 0, none⟩), undef, .int .i64 0, .bool false, .int .i64 (sgD d), .bool true, .pointer (some ⟨w1.heap.size, 0, none⟩), .pointer (some ⟨w4.heap.size, 0, none⟩), .pointer (some ⟨b0, 0, none⟩), .tuple #[.int .i64 (sgD d), .bool true], .int .i64 d, .tuple #[.int .i64 (sgD d), .bool true], .int .i64 (sgD d), .bool true, .bool true, .bool false, .bool false, .agg CA, .bool true, .bool false, .bool false, .agg CA, .int .i64 acc, .int .i64 sy, .int .i64 st, .int .i64 (sgD d), .tuple #[], .func (.func 21) #[.pointer (some ⟨w1.heap.size, 0, none⟩)] #[], .agg CA, .int .i64 acc, .func (.func 53) #[] #[.pointer (some ⟨w4.heap.size + 1, 0, none⟩), .pointer (some ⟨w4.heap.size + 1 + 1, 0, none⟩)], aggI x, undef, undef, undef, undef, undef, undef, undef, undef, undef, undef, undef, undef, undef, undef, undef, undef, undef, undef, undef, undef], []⟩) ?bax ?assign ?body ?done ?stop
      case bi =>
        rintro pre A B ⟨h1, h2⟩ ht
        exact ⟨h1, h2.turn (by omega) (by omega) hsz6 ht (fun k o h => h.1)⟩
      case bx => exact fun _ _ _ _ h _ => h
      case h0 => exact ⟨⟨_, rfl⟩, by show SumI _ _ _ _ _ _ (st * sgD d + 0) _; rw [Int.add_zero]; exact HSI.out⟩
      case bax =>
        rintro pre x a' s A B ⟨h1, h2, b0, u, h4, h5, h6, h7⟩ ht
        exact ⟨h1, h2.turn (by omega) (by omega) hsz6 ht (fun k o h => h.1), b0, u, h4, ht.block _ _ h5 (fun h => by have := h.2; cases this), h6, h7⟩
      case assign =>
        rintro lo pre x V K2 ⟨_, hI⟩ htl hK
        obtain ⟨s, htl⟩ := htl
        obtain ⟨_, s0, s1, s2, s3, s4, s5, rfl⟩ := order_of HK.out htl
        have hbl := (Below.refl _ V).alloc (Nat.le_refl _) (.cells #[.int .i64 s0, .int .i64 s1, .int .i64 s2, .int .i64 s3, .int .i64 s4, .int .i64 s5] 37)
        have HKK := Lib.hid (hK _ _ (TurnsK.below hbl) ⟨⟨s, htl⟩, hI.below hbl, V.heap.size, #[.int .i64 s0, .int .i64 s1, .int .i64 s2, .int .i64 s3, .int .i64 s4, .int .i64 s5], rfl, heap_alloc_new V _, hI.sz, rfl⟩)
        clear hK hI htl hbl
        rw [ord_agg]
        gi_wp2
        exact HKK.out
      case stop =>
        rintro D c pre V hD h hK
        exact h.elim
      case body =>
        rintro lo pre x a' V ⟨⟨s, htl⟩, hI, b0, u, h4, h5, h6, rfl⟩
        obtain ⟨hxm, s0, s1, s2, s3, s4, s5, rfl⟩ := order_of HK.out htl
        have q64 : In64' s4 := key_in HK.out.os hxm 4
        have hz := far_sum (sy := sy) (d := d) HK.out (a := acc) (pre := pre) (s := [[s0, s1, s2, s3, s4, s5]] ++ s) (by rw [← List.append_assoc]; exact htl)
        have hin : In192 ((st * sgD d + sumI (key 4) (ofSD sy d pre)) + s4) := (fine_of (by have := HZ0.out; unfold In64' at q64; omega)).in
        have HAD := Lib.hid (add16 w1.heap.size _ _ V hI.num q64 hin)
        have HSN := Lib.hid (ofSD_snoc sy d pre [s0, s1, s2, s3, s4, s5])
        have HIV := Lib.hid hI
        have HTL := Lib.hid htl
        have cp := hI.add.cell
        have hu : u = #[.int .i64 s0, .int .i64 s1, .int .i64 s2, .int .i64 s3, .int .i64 s4, .int .i64 s5] := by
          have : Value.agg u = .agg #[.int .i64 s0, .int .i64 s1, .int .i64 s2, .int .i64 s3, .int .i64 s4, .int .i64 s5] := h4.symm
          simpa using this
        subst hu
        have c2 : V.cell? ⟨b0, 2, none⟩ = some (.int .i64 s2) := by rw [cell_of_row _ _ _ _ _ _ h5]; rfl
        have c3 : V.cell? ⟨b0, 3, none⟩ = some (.int .i64 s3) := by rw [cell_of_row _ _ _ _ _ _ h5]; rfl
        have c4 : V.cell? ⟨b0, 4, none⟩ = some (.int .i64 s4) := by rw [cell_of_row _ _ _ _ _ _ h5]; rfl
        have cs := (HSY.out V hI.lo).cell
        have cd := (HSD.out V hI.lo).cell
        clear hI htl hxm q64 hz hin h4 h5
        by_cases e2 : s2 = sy
        case neg =>
          have g2 : (s2 == sy) = false := by rw [beq_eq_false_iff_ne]; exact e2
          have HN := Lib.hid (show ofSD sy d (pre ++ [[s0, s1, s2, s3, s4, s5]]) = ofSD sy d pre by rw [HSN.out, show key 2 [s0, s1, s2, s3, s4, s5] = s2 from rfl, g2, Bool.false_and, if_neg (by simp), List.append_nil])
          clear e2
          gi_wp2
          repeat (first | (refine ⟨trivial, ?_⟩; gi_wp2) | (refine ⟨fun _ _ => trivial, ?_⟩; gi_wp2))
          exact ⟨TurnsK.refl _ _, ⟨s, HTL.out⟩, by rw [HN.out]; exact HIV.out⟩
        have g2 : (s2 == sy) = true := by rw [beq_iff_eq]; exact e2
        by_cases e3 : s3 = d
        case neg =>
          have g3 : (s3 == d) = false := by rw [beq_eq_false_iff_ne]; exact e3
          have HN := Lib.hid (show ofSD sy d (pre ++ [[s0, s1, s2, s3, s4, s5]]) = ofSD sy d pre by rw [HSN.out, show key 3 [s0, s1, s2, s3, s4, s5] = s3 from rfl, g3, Bool.and_false, if_neg (by simp), List.append_nil])
          clear e2 e3
          gi_wp2
          repeat (first | (refine ⟨trivial, ?_⟩; gi_wp2) | (refine ⟨fun _ _ => trivial, ?_⟩; gi_wp2))
          exact ⟨TurnsK.refl _ _, ⟨s, HTL.out⟩, by rw [HN.out]; exact HIV.out⟩
        have g3 : (s3 == d) = true := by rw [beq_iff_eq]; exact e3
        have HN := Lib.hid (show st * sgD d + sumI (key 4) (ofSD sy d (pre ++ [[s0, s1, s2, s3, s4, s5]])) = (st * sgD d + sumI (key 4) (ofSD sy d pre)) + s4 by
          rw [HSN.out, show key 2 [s0, s1, s2, s3, s4, s5] = s2 from rfl, show key 3 [s0, s1, s2, s3, s4, s5] = s3 from rfl, g2, g3, Bool.and_self, if_pos rfl, sumI_snoc]
          show _ + (_ + s4) = _
          omega)
        clear e2 e3
        gi_wp2_with (refine ⟨trivial, ?_⟩; gi_at_call 21; refine (callsIn_wide.2 HAD.out).mono ?_; rintro e w8 ⟨rfl, hn8, hg8⟩; have HT8 := Lib.hid (RSum.of HIV.out.num hg8); have HS8 := Lib.hid (HIV.out.added hn8 hg8 (by omega) (by omega)); clear hn8 hg8)
        exact ⟨HT8.out, ⟨s, HTL.out⟩, by rw [HN.out]; exact HS8.out⟩
      case done =>
        rintro D xs V hD hf ⟨_, hI⟩ hK
        rw [hf] at hI
        have hz := far_sum (sy := sy) (d := d) HK.out (a := acc) (pre := ofAcc 1 acc b.os) (s := []) (by rw [List.append_nil])
        have hfin : Fine (farT b acc sy d q) := by rw [HFA.out]; have := HZ0.out; have h64 := HQ.out; unfold In64' at h64; exact fine_of (by omega)
        have HAD := Lib.hid (add16 w1.heap.size _ _ V hI.num HQ.out (by rw [← HFA.out]; exact hfin.in))
        rw [← HFA.out] at HAD
        have HTO := Lib.hid (fun W (h : NumAt W w1.heap.size 54 (farT b acc sy d q)) => total18 w1.heap.size _ W h)
        generalize farT b acc sy d q = z at *
        have HIV := Lib.hid hI
        have HKD := Lib.hid hK
        have HDD := Lib.hid hD
        have cp := hI.add.cell
        clear hI hf hK hz hfin
        gi_wp2_with (first
          | (refine ⟨trivial, ?_⟩; gi_at_call 21; refine (callsIn_wide.2 HAD.out).mono ?_; rintro e w8 ⟨rfl, hn8, hg8⟩; have HS8 := Lib.hid (HIV.out.added hn8 hg8 (by omega) (by omega)); have HB8 := Lib.hid ((hg8.block _ (blk_ltK HKD.out) (by simp; omega)).trans HKD.out); clear hn8 hg8)
          | (refine ⟨trivial, ?_⟩; gi_at_call 25; refine (callsIn_wide.2 (HTO.out _ HS8.out.num)).mono ?_; rintro e w9 ⟨rfl, hw9⟩; subst hw9))
        refine ⟨by simp, .inl ⟨_, _, rfl, run_takeDeferred HB8.out, ?_⟩⟩
        exact ⟨_, results_tmp2 (t := 10) (u := 11) rfl _ _ _, HFE.out, HA.out.trans ((HS8.out.lo.trans (((TurnsK.refl (fun k o => k = D ∧ o.isCells = false) _).putObj HB8.out ⟨rfl, rfl⟩ _).lo HS8.out.lo.size (fun k o hk h => by have := h.1; omega))).mono HA.out.size)⟩
end Go.Proofs.Ytmndkbfjmamnfaa
