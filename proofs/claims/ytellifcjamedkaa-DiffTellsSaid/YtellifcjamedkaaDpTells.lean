/- The walk of DiffTells. -/
import Derived.Test.YtellifcjamedkaaDpAlive
import Derived.Test.YtellifcjamedkaaDfRef3D
import Derived.Test.YtellifcjamedkaaBkIn
import Derived.Test.YtellifcjamedkaaBkRef9
namespace Go.Proofs.Ytellifcjamedkaa
open Go.RowKit Base Base2

theorem chOf_len (p : Option RowT × Option RowT) : (chOf p).length ≤ 1 := by
  obtain ⟨_ | x, _ | y⟩ := p
  · show 0 ≤ 1; omega
  · exact Nat.le_refl _
  · exact Nat.le_refl _
  · show (if x.v = y.v then [] else [chgC x y]).length ≤ 1
    split <;> simp
theorem flat_len : ∀ l : List (Option RowT × Option RowT), (l.flatMap chOf).length ≤ l.length
  | [] => Nat.le_refl _
  | p :: l => by
    rw [List.flatMap_cons, List.length_append, List.length_cons]
    have := chOf_len p
    have := flat_len l
    omega
theorem merge_len (xs ys : List RowT) : (mergeD xs ys).length ≤ xs.length + ys.length := by
  rw [← beside_merge]
  exact Nat.le_trans (flat_len _) (beside_len keyT keyT xs ys)
theorem values_short {l : Int} {v : List Int} (h : valuesT l v = true) : v.length ≤ 5 := by
  unfold valuesT at h
  split at h
  · rename_i e; rw [e]; simp
  · simp only [Bool.and_eq_true, beq_iff_eq] at h
    rw [h.1]; unfold allT; split <;> (try split) <;> omega
theorem diff_short {a b : BookT} (ha : MayB a) (hb : MayB b) : ∀ c ∈ diffT a b, c.was.length ≤ 5 ∧ c.now.length ≤ 5 := fun c hc => by
  have h := diff_one ha hb c hc
  unfold mayOne at h
  simp only [Bool.and_eq_true] at h
  exact ⟨values_short h.1.1.1.1.2, values_short h.1.1.1.2⟩
set_option maxRecDepth 100000 in
set_option maxHeartbeats 8000000 in
theorem tells3 (v u : Slots) (a b : BookT) (w : World) (ha : BookIn w v a) (hb : BookIn w u b) (hwa : BookWf a) (hwb : BookWf b) :
    Calls Try.prog 3 #[.agg (cellsB v a), .agg (cellsB u b)] w fun e w' => e = .returned (.bool true) ∧ Below w.heap.size w w' := by
  obtain ⟨W0, hW0⟩ : ∃ x, ((w.alloc (.cells (cellsB v a) 27)).alloc (.cells (cellsB u b) 27)) = x := ⟨_, rfl⟩
  have hA : Below w.heap.size w W0 := by rw [← hW0]; exact ((Below.refl _ w).alloc (Nat.le_refl _) _).alloc (by simp) _
  have hg1 : BoxB W0 w.heap.size v a := by rw [← hW0]; exact two_new.1
  have hg2 : BoxB W0 (w.heap.size + 1) u b := by rw [← hW0]; exact two_new.2
  have HLO := Lib.hid (fun W (h : Below W0.heap.size W0 W) => show Below w.heap.size w W from hA.trans (h.mono hA.size))
  have HL1 := Lib.hid (fun W (h : Below W0.heap.size W0 W) => load_book (hg1.below h (lt_of_blk hg1)))
  have HL2 := Lib.hid (fun W (h : Below W0.heap.size W0 W) => load_book (hg2.below h (lt_of_blk hg2)))
  have HBA := Lib.hid (fun W (h : Below W0.heap.size W0 W) => ha.below (HLO.out W h))
  have HBB := Lib.hid (fun W (h : Below W0.heap.size W0 W) => hb.below (HLO.out W h))
  have HAL := Lib.hid (alive5 W0)
  have HAL := Lib.hid (fun (_ : Unit) => HAL.out)
  have HGA := Lib.hid (fun W => great8 v a W)
  have HGB := Lib.hid (fun W => great8 u b W)
  clear hg1 hg2 hA ha hb
  cases hga : greatT a with
  | true =>
    rw [hga] at HGA
    clear hga hwa hwb HBA HBB
    generalize cellsB v a = CA at *
    generalize cellsB u b = CB at *
    go_enter Try.func3, Try.ntmps3
    go_wp2_with (first | ((with_reducible refine atLoad (ty := 27) (x := .tmp 2) rfl ?_); refine loadE (by rfl) 27 (.tmp 2) rfl _ (.agg CA) rfl (HL1.out _ (by first | exact H6.out | exact H5.out | exact H4.out | exact H3.out | exact H2.out | exact H1.out)) ?_) | ((with_reducible refine atLoad (ty := 27) (x := .tmp 3) rfl ?_); refine loadE (by rfl) 27 (.tmp 3) rfl _ (.agg CB) rfl (HL2.out _ (by first | exact H6.out | exact H5.out | exact H4.out | exact H3.out | exact H2.out | exact H1.out)) ?_) | (go_at_call 5; refine (HAL.out ()).mono ?_; rintro e w1 ⟨rfl, hb⟩; have H1 := Lib.hid hb; clear hb) | (go_at_call 6; refine (HGA.out _).mono ?_; rintro e w2 ⟨rfl, hb⟩; have H2 := Lib.hid (H1.out.trans (hb.mono H1.out.size)); clear hb))
    go_ret
    exact ⟨rfl, HLO.out _ H2.out⟩
  | false =>
    have ka := ok_of_great hga hwa
    rw [hga] at HGA
    clear hga hwa
    cases hgb : greatT b with
    | true =>
      rw [hgb] at HGB
      clear hgb hwb HBA HBB ka
      generalize cellsB v a = CA at *
      generalize cellsB u b = CB at *
      go_enter Try.func3, Try.ntmps3
      go_wp2_with (first | ((with_reducible refine atLoad (ty := 27) (x := .tmp 2) rfl ?_); refine loadE (by rfl) 27 (.tmp 2) rfl _ (.agg CA) rfl (HL1.out _ (by first | exact H6.out | exact H5.out | exact H4.out | exact H3.out | exact H2.out | exact H1.out)) ?_) | ((with_reducible refine atLoad (ty := 27) (x := .tmp 3) rfl ?_); refine loadE (by rfl) 27 (.tmp 3) rfl _ (.agg CB) rfl (HL2.out _ (by first | exact H6.out | exact H5.out | exact H4.out | exact H3.out | exact H2.out | exact H1.out)) ?_) | (go_at_call 5; refine (HAL.out ()).mono ?_; rintro e w1 ⟨rfl, hb⟩; have H1 := Lib.hid hb; clear hb) | (have hq := H2.out; clear hq; go_at_call 6; refine (HGB.out _).mono ?_; rintro e w3 ⟨rfl, hb⟩; have H3 := Lib.hid (H2.out.trans (hb.mono H2.out.size)); clear hb) | (go_at_call 6; refine (HGA.out _).mono ?_; rintro e w2 ⟨rfl, hb⟩; have H2 := Lib.hid (H1.out.trans (hb.mono H1.out.size)); clear hb))
      go_ret
      exact ⟨rfl, HLO.out _ H3.out⟩
    | false =>
      have kb := ok_of_great hgb hwb
      rw [hgb] at HGB
      clear hgb hwb
      have ka2 : BookOk 2000 a := ka.mono (by omega)
      have kb2 : BookOk 2000 b := kb.mono (by omega)
      have HMA := Lib.hid (fun W (h : Below W0.heap.size W0 W) => may10 v a W (HBA.out W h) ka2)
      have HMB := Lib.hid (fun W (h : Below W0.heap.size W0 W) => may10 u b W (HBB.out W h) kb2)
      have HDN := Lib.hid (fun W (h : Below W0.heap.size W0 W) (hm : mayT a = false ∨ mayT b = false) => diff_no v u a b W (HBA.out W h) (HBB.out W h) ka2 kb2 hm)
      cases h1 : mayT a with
      | false =>
        have HDN := Lib.hid (fun W h => HDN.out W h (.inl h1))
        rw [h1] at HMA
        clear h1 HBA HBB ka kb ka2 kb2
        generalize cellsB v a = CA at *
        generalize cellsB u b = CB at *
        go_enter Try.func3, Try.ntmps3
        go_wp2_with (first | ((with_reducible refine atLoad (ty := 27) (x := .tmp 2) rfl ?_); refine loadE (by rfl) 27 (.tmp 2) rfl _ (.agg CA) rfl (HL1.out _ (by first | exact H6.out | exact H5.out | exact H4.out | exact H3.out | exact H2.out | exact H1.out)) ?_) | ((with_reducible refine atLoad (ty := 27) (x := .tmp 3) rfl ?_); refine loadE (by rfl) 27 (.tmp 3) rfl _ (.agg CB) rfl (HL2.out _ (by first | exact H6.out | exact H5.out | exact H4.out | exact H3.out | exact H2.out | exact H1.out)) ?_) | (go_at_call 5; refine (HAL.out ()).mono ?_; rintro e w1 ⟨rfl, hb⟩; have H1 := Lib.hid hb; clear hb) | (have hq := H2.out; clear hq; go_at_call 6; refine (HGB.out _).mono ?_; rintro e w3 ⟨rfl, hb⟩; have H3 := Lib.hid (H2.out.trans (hb.mono H2.out.size)); clear hb) | (go_at_call 6; refine (HGA.out _).mono ?_; rintro e w2 ⟨rfl, hb⟩; have H2 := Lib.hid (H1.out.trans (hb.mono H1.out.size)); clear hb) | (go_at_call 7; refine (HDN.out _ H3.out).mono ?_; rintro e w4 ⟨rfl, hb⟩; have H4 := Lib.hid (H3.out.trans (hb.mono H3.out.size)); clear hb) | (go_at_call 8; refine (HMA.out _ H4.out).mono ?_; rintro e w5 ⟨rfl, hb⟩; have H45 := Lib.hid hb; have H5 := Lib.hid (H4.out.trans (hb.mono H4.out.size)); clear hb))
        go_ret
        exact ⟨rfl, HLO.out _ H5.out⟩
      | true =>
        rw [h1] at HMA
        cases h2 : mayT b with
        | false =>
          have HDN := Lib.hid (fun W h => HDN.out W h (.inr h2))
          rw [h2] at HMB
          clear h1 h2 HBA HBB ka kb ka2 kb2
          generalize cellsB v a = CA at *
          generalize cellsB u b = CB at *
          go_enter Try.func3, Try.ntmps3
          go_wp2_with (first | ((with_reducible refine atLoad (ty := 27) (x := .tmp 2) rfl ?_); refine loadE (by rfl) 27 (.tmp 2) rfl _ (.agg CA) rfl (HL1.out _ (by first | exact H6.out | exact H5.out | exact H4.out | exact H3.out | exact H2.out | exact H1.out)) ?_) | ((with_reducible refine atLoad (ty := 27) (x := .tmp 3) rfl ?_); refine loadE (by rfl) 27 (.tmp 3) rfl _ (.agg CB) rfl (HL2.out _ (by first | exact H6.out | exact H5.out | exact H4.out | exact H3.out | exact H2.out | exact H1.out)) ?_) | (go_at_call 5; refine (HAL.out ()).mono ?_; rintro e w1 ⟨rfl, hb⟩; have H1 := Lib.hid hb; clear hb) | (have hq := H2.out; clear hq; go_at_call 6; refine (HGB.out _).mono ?_; rintro e w3 ⟨rfl, hb⟩; have H3 := Lib.hid (H2.out.trans (hb.mono H2.out.size)); clear hb) | (go_at_call 6; refine (HGA.out _).mono ?_; rintro e w2 ⟨rfl, hb⟩; have H2 := Lib.hid (H1.out.trans (hb.mono H1.out.size)); clear hb) | (go_at_call 7; refine (HDN.out _ H3.out).mono ?_; rintro e w4 ⟨rfl, hb⟩; have H4 := Lib.hid (H3.out.trans (hb.mono H3.out.size)); clear hb) | (have hq := H5.out; clear hq; go_at_call 8; refine (HMB.out _ H5.out).mono ?_; rintro e w6 ⟨rfl, hb⟩; have HX := Lib.hid hb; have H6 := Lib.hid (H5.out.trans (hb.mono H5.out.size)); clear hb) | (go_at_call 8; refine (HMA.out _ H4.out).mono ?_; rintro e w5 ⟨rfl, hb⟩; have H45 := Lib.hid hb; have H5 := Lib.hid (H4.out.trans (hb.mono H4.out.size)); clear hb))
          go_ret
          exact ⟨rfl, HLO.out _ H6.out⟩
        | true =>
          rw [h2] at HMB
          have HDY := Lib.hid (fun W (h : Below W0.heap.size W0 W) => diff_yes v u a b W (HBA.out W h) (HBB.out W h) ka2 kb2 h1 h2)
          have HRD := Lib.hid (fun W (h : Below W0.heap.size W0 W) => rdiff12 v u a b W (HBA.out W h) (HBB.out W h) ka2 kb2)
          have HRS := Lib.hid (fun W (h : Below W0.heap.size W0 W) => same12 v u a b W (HBA.out W h) (HBB.out W h) ka2 kb2)
          have HSH := Lib.hid (diff_short (mayB h1 ka2) (mayB h2 kb2))
          have HDN2 := Lib.hid (diff_none (mayB h1 ka2) (mayB h2 kb2))
          have hln : (diffT a b).length ≤ 16002 := by
            have h1 := merge_len (rowsD a) (rowsD b)
            have h2 := (rowsD_len ka2).2
            have h3 := (rowsD_len kb2).2
            unfold diffT
            omega
          clear h1 h2 HBA HBB ka kb ka2 kb2
          generalize cellsB v a = CA at *
          generalize cellsB u b = CB at *
          go_enter Try.func3, Try.ntmps3
          go_wp2_with (first | ((with_reducible refine atLoad (ty := 27) (x := .tmp 2) rfl ?_); refine loadE (by rfl) 27 (.tmp 2) rfl _ (.agg CA) rfl (HL1.out _ (by first | exact H6.out | exact H5.out | exact H4.out | exact H3.out | exact H2.out | exact H1.out)) ?_) | ((with_reducible refine atLoad (ty := 27) (x := .tmp 3) rfl ?_); refine loadE (by rfl) 27 (.tmp 3) rfl _ (.agg CB) rfl (HL2.out _ (by first | exact H6.out | exact H5.out | exact H4.out | exact H3.out | exact H2.out | exact H1.out)) ?_) | (go_at_call 5; refine (HAL.out ()).mono ?_; rintro e w1 ⟨rfl, hb⟩; have H1 := Lib.hid hb; clear hb) | (have hq := H2.out; clear hq; go_at_call 6; refine (HGB.out _).mono ?_; rintro e w3 ⟨rfl, hb⟩; have H3 := Lib.hid (H2.out.trans (hb.mono H2.out.size)); clear hb) | (go_at_call 6; refine (HGA.out _).mono ?_; rintro e w2 ⟨rfl, hb⟩; have H2 := Lib.hid (H1.out.trans (hb.mono H1.out.size)); clear hb) | (go_at_call 7; refine (HDY.out _ H3.out).mono ?_; rintro e w4 ⟨vo, o, rfl, hc1, hm1⟩; obtain ⟨oa, oc, hvo, _, hca⟩ := chAt_own hc1.row; subst hvo; have HC1 := Lib.hid hc1; have HM1 := Lib.hid hm1; have HCA := Lib.hid hca; have hb : Below w3.heap.size w3 w4 := hc1.lo; have H4 := Lib.hid (H3.out.trans (hb.mono H3.out.size)); clear hb; clear hc1 hm1 hca) | (have hq := H5.out; clear hq; go_at_call 8; refine (HMB.out _ H5.out).mono ?_; rintro e w6 ⟨rfl, hb⟩; have HX := Lib.hid hb; have H6 := Lib.hid (H5.out.trans (hb.mono H5.out.size)); clear hb) | (go_at_call 8; refine (HMA.out _ H4.out).mono ?_; rintro e w5 ⟨rfl, hb⟩; have H45 := Lib.hid hb; have H5 := Lib.hid (H4.out.trans (hb.mono H4.out.size)); clear hb))
          have HOL := Lib.hid (show o.length = (diffT a b).length by rw [← HM1.out, List.length_map])
          have HLN := Lib.hid hln
          clear hln
          have HNE := Lib.hid (show ((o.length : Int) == 0) = decide (o = []) by cases o with | nil => rfl | cons x l => simp; omega)
          have HEE := Lib.hid (show decide (o = []) = sameT a b by rw [Bool.eq_iff_iff, decide_eq_true_eq, ← HDN2.out, ← HM1.out]; exact ⟨fun h => (by rw [h]; rfl), fun h => (by cases o with | nil => rfl | cons x l => cases h)⟩)
          refine wp_region_held_drew (S := fun W => Below w6.heap.size w6 W) (by kernel_rfl) ((Below.refl _ _).drew) (fun hS => ?_)
          refine wpAnyH_take (i := 0) (v := .int .i64 0) rfl (by kernel_rfl) (by kernel_rfl) (by kernel_rfl) (fun _ _ _ h => h) (Or.inl ⟨by simp [Region.wanted], fun W _ => by go_simp⟩) hS ?_
          simp only [List.getElem_toArray, List.getElem_cons_zero, Act.put, List.setIfInBounds_toArray, List.set_cons_zero, List.set_cons_succ]
          refine wpAnyH_take (i := 1) (v := .bool true) rfl (by kernel_rfl) (by kernel_rfl) (by kernel_rfl) (fun _ _ _ h => h) (Or.inl ⟨by simp [Region.wanted], fun W _ => by go_simp⟩) hS ?_
          simp only [List.getElem_toArray, List.getElem_cons_zero, List.getElem_cons_succ, Act.put, List.setIfInBounds_toArray, List.set_cons_zero, List.set_cons_succ]
          refine wpAnyH_take (i := 2) (v := .bool true) rfl (by kernel_rfl) (by kernel_rfl) (by kernel_rfl) (fun _ _ _ h => h) (Or.inl ⟨by simp [Region.wanted], fun W _ => by go_simp⟩) hS ?_
          simp only [List.getElem_toArray, List.getElem_cons_zero, List.getElem_cons_succ, Act.put, List.setIfInBounds_toArray, List.set_cons_zero, List.set_cons_succ]
          refine wpAnyH_take (i := 3) (v := .slice oa o.length oc) rfl (by kernel_rfl) (by kernel_rfl) (by kernel_rfl) (fun _ _ _ h => h) (Or.inl ⟨by rfl, fun W _ => by go_simp⟩) hS ?_
          simp only [List.getElem_toArray, List.getElem_cons_zero, List.getElem_cons_succ, Act.put, List.setIfInBounds_toArray, List.set_cons_zero, List.set_cons_succ]
          refine wpAnyH_take (i := 5) (v := .agg CA) rfl (by kernel_rfl) (by kernel_rfl) (by kernel_rfl) (fun _ _ _ h => h) (yields_atD (by rfl) 27 (.tmp 2) rfl (.pointer (some ⟨w.heap.size, 0, none⟩)) _ rfl (fun W hW => HL1.out _ (H6.out.trans ((hW).mono H6.out.size)))) hS ?_
          simp only [List.getElem_toArray, List.getElem_cons_zero, List.getElem_cons_succ, Act.put, List.setIfInBounds_toArray, List.set_cons_zero, List.set_cons_succ]
          refine wpAnyH_take (i := 6) (v := .agg CB) rfl (by kernel_rfl) (by kernel_rfl) (by kernel_rfl) (fun _ _ _ h => h) (yields_atD (by rfl) 27 (.tmp 3) rfl (.pointer (some ⟨w.heap.size + 1, 0, none⟩)) _ rfl (fun W hW => HL2.out _ (H6.out.trans ((hW).mono H6.out.size)))) hS ?_
          simp only [List.getElem_toArray, List.getElem_cons_zero, List.getElem_cons_succ, Act.put, List.setIfInBounds_toArray, List.set_cons_zero, List.set_cons_succ]
          refine wpAnyH_ready (rs := [4]) (by kernel_rfl) (by simp) ?_
          refine AllReadyH.cons rfl (fun K1 hK1 => ?_) AllReadyH.nil
          rw [if_pos (by rfl)]
          simp only [List.getElem_toArray, List.getElem_cons_zero, List.getElem_cons_succ]
          go_wp2_with (go_at_call 10; refine (plain11 oa oc o _ (by rw [HOL.out]; have := HLN.out; omega) (fun W h => HCA.out W (bt2 (bt2 (H45.out) (HX.out)) (bt2 hS h))) (fun x hx => ⟨(HC1.out.val x hx).1.below (bt2 (bt2 H45.out HX.out) hS), (HC1.out.val x hx).2.below (bt2 (bt2 H45.out HX.out) hS)⟩)).mono ?_; rintro e w8 ⟨vp, rfl, hc8⟩; obtain ⟨pa, pc, hvp, _, hcp⟩ := chAt_own hc8.row; subst hvp; have HC8 := Lib.hid hc8; have HCP := Lib.hid hcp; clear hc8 hcp)
          refine hK1.out _ _ ((hS).trans (HC8.out.lo.mono (hS).size)) (fun hS1 => ?_)
          refine wpAnyH_ready (rs := [7]) (by kernel_rfl) (by simp) ?_
          refine AllReadyH.cons rfl (fun K2 hK2 => ?_) AllReadyH.nil
          rw [if_pos (by rfl)]
          simp only [List.getElem_toArray, List.getElem_cons_zero, List.getElem_cons_succ]
          go_wp2_with (go_at_call 11; refine (HRD.out _ (H6.out.trans (hS1.mono H6.out.size))).mono ?_; rintro e w9 ⟨vr, oo, rfl, hc9, hm9⟩; obtain ⟨qa, qc, hvq, _, hcq⟩ := chAt_own hc9.row; subst hvq; have HC9 := Lib.hid hc9; have HCQ := Lib.hid hcq; have HM9 := Lib.hid hm9; clear hc9 hcq hm9)
          refine hK2.out _ _ ((hS1).trans (HC9.out.lo.mono (hS1).size)) (fun hS2 => ?_)
          refine wpAnyH_ready (rs := [8]) (by kernel_rfl) (by simp) ?_
          refine AllReadyH.cons rfl (fun K3 hK3 => ?_) AllReadyH.nil
          rw [if_pos (by rfl)]
          simp only [List.getElem_toArray, List.getElem_cons_zero, List.getElem_cons_succ]
          go_wp2_with (go_at_call 9; refine (rsameC pa qa pc qc o oo _ (HCP.out _ HC9.out.lo) (HCQ.out _ (Below.refl _ _)) (fun x hx => ⟨(HC8.out.val x hx).1.below HC9.out.lo, (HC8.out.val x hx).2.below HC9.out.lo⟩) HC9.out.val (fun x hx => (by have h : x.c ∈ diffT a b := (by rw [← HM1.out]; exact List.mem_map_of_mem hx); have h2 := HSH.out _ h; omega)) true ⟨fun _ => HM1.out.trans HM9.out.symm, fun _ => rfl⟩ (by rw [HOL.out]; have := HLN.out; omega)).mono ?_; rintro e w10 ⟨rfl, m, hw10⟩; have HW10 := Lib.hid hw10; clear hw10)
          refine hK3.out _ _ ((hS2).trans (by rw [HW10.out]; exact (below_drews' _ m))) (fun hS3 => ?_)
          refine wpAnyH_take (i := 9) (v := .bool true) rfl (by kernel_rfl) (by kernel_rfl) (by kernel_rfl) (fun _ _ _ h => h) (Or.inl ⟨by simp [Region.wanted], fun W _ => by go_simp⟩) hS3 ?_
          simp only [List.getElem_toArray, List.getElem_cons_zero, List.getElem_cons_succ, Act.put, List.setIfInBounds_toArray, List.set_cons_zero, List.set_cons_succ]
          refine wpAnyH_take (i := 10) (v := .bool true) rfl (by kernel_rfl) (by kernel_rfl) (by kernel_rfl) (fun _ _ _ h => h) (Or.inl ⟨by simp [Region.wanted], fun W _ => by go_simp⟩) hS3 ?_
          simp only [List.getElem_toArray, List.getElem_cons_zero, List.getElem_cons_succ, Act.put, List.setIfInBounds_toArray, List.set_cons_zero, List.set_cons_succ]
          refine wpAnyH_take (i := 11) (v := .slice oa o.length oc) rfl (by kernel_rfl) (by kernel_rfl) (by kernel_rfl) (fun _ _ _ h => h) (Or.inl ⟨by rfl, fun W _ => by go_simp⟩) hS3 ?_
          simp only [List.getElem_toArray, List.getElem_cons_zero, List.getElem_cons_succ, Act.put, List.setIfInBounds_toArray, List.set_cons_zero, List.set_cons_succ]
          refine wpAnyH_take (i := 12) (v := .int .i64 (o.length : Int)) rfl (by kernel_rfl) (by kernel_rfl) (by kernel_rfl) (fun _ _ _ h => h) (Or.inl ⟨by rfl, fun W _ => by go_simp⟩) hS3 ?_
          simp only [List.getElem_toArray, List.getElem_cons_zero, List.getElem_cons_succ, Act.put, List.setIfInBounds_toArray, List.set_cons_zero, List.set_cons_succ]
          refine wpAnyH_take (i := 13) (v := .bool (decide (o = []))) rfl (by kernel_rfl) (by kernel_rfl) (by kernel_rfl) (fun _ _ _ h => h) (Or.inl ⟨by rfl, fun W _ => by go_simp; exact HNE.out⟩) hS3 ?_
          simp only [List.getElem_toArray, List.getElem_cons_zero, List.getElem_cons_succ, Act.put, List.setIfInBounds_toArray, List.set_cons_zero, List.set_cons_succ]
          refine wpAnyH_take (i := 14) (v := .agg CA) rfl (by kernel_rfl) (by kernel_rfl) (by kernel_rfl) (fun _ _ _ h => h) (yields_atD (by rfl) 27 (.tmp 2) rfl (.pointer (some ⟨w.heap.size, 0, none⟩)) _ rfl (fun W hW => HL1.out _ (H6.out.trans ((hW).mono H6.out.size)))) hS3 ?_
          simp only [List.getElem_toArray, List.getElem_cons_zero, List.getElem_cons_succ, Act.put, List.setIfInBounds_toArray, List.set_cons_zero, List.set_cons_succ]
          refine wpAnyH_take (i := 15) (v := .agg CB) rfl (by kernel_rfl) (by kernel_rfl) (by kernel_rfl) (fun _ _ _ h => h) (yields_atD (by rfl) 27 (.tmp 3) rfl (.pointer (some ⟨w.heap.size + 1, 0, none⟩)) _ rfl (fun W hW => HL2.out _ (H6.out.trans ((hW).mono H6.out.size)))) hS3 ?_
          simp only [List.getElem_toArray, List.getElem_cons_zero, List.getElem_cons_succ, Act.put, List.setIfInBounds_toArray, List.set_cons_zero, List.set_cons_succ]
          refine wpAnyH_ready (rs := [16]) (by kernel_rfl) (by simp) ?_
          refine AllReadyH.cons rfl (fun K4 hK4 => ?_) AllReadyH.nil
          rw [if_pos (by rfl)]
          simp only [List.getElem_toArray, List.getElem_cons_zero, List.getElem_cons_succ]
          go_wp2_with (go_at_call 12; refine (HRS.out _ (H6.out.trans (hS3.mono H6.out.size))).mono ?_; rintro e w11 ⟨rfl, hb11⟩; have HB11 := Lib.hid hb11; clear hb11)
          refine hK4.out _ _ ((hS3).trans (HB11.out.mono (hS3).size)) (fun hS4 => ?_)
          refine wpAnyH_take (i := 17) (v := .bool true) rfl (by kernel_rfl) (by kernel_rfl) (by kernel_rfl) (fun _ _ _ h => h) (Or.inl ⟨by rfl, fun W _ => by go_simp; exact HEE.out⟩) hS4 ?_
          simp only [List.getElem_toArray, List.getElem_cons_zero, List.getElem_cons_succ, Act.put, List.setIfInBounds_toArray, List.set_cons_zero, List.set_cons_succ]
          refine wpAnyH_take (i := 18) (v := .bool true) rfl (by kernel_rfl) (by kernel_rfl) (by kernel_rfl) (fun _ _ _ h => h) (Or.inl ⟨by simp [Region.wanted], fun W _ => by go_simp⟩) hS4 ?_
          simp only [List.getElem_toArray, List.getElem_cons_zero, List.getElem_cons_succ, Act.put, List.setIfInBounds_toArray, List.set_cons_zero, List.set_cons_succ]
          refine wpAnyH_take (i := 19) (v := .bool true) rfl (by kernel_rfl) (by kernel_rfl) (by kernel_rfl) (fun _ _ _ h => h) (Or.inl ⟨by simp [Region.wanted], fun W _ => by go_simp⟩) hS4 ?_
          simp only [List.getElem_toArray, List.getElem_cons_zero, List.getElem_cons_succ, Act.put, List.setIfInBounds_toArray, List.set_cons_zero, List.set_cons_succ]
          refine wpAnyH_done (by kernel_rfl) ?_ _
          go_wp2
          go_ret
          exact ⟨rfl, HLO.out _ (H6.out.trans (hS4.mono H6.out.size))⟩
end Go.Proofs.Ytellifcjamedkaa
