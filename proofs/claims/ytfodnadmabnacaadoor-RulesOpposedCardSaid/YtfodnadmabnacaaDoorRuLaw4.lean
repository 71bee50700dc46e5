/- RulesWeighs: the walk. -/
import Derived.Test.YtfodnadmabnacaaDoorRuLaw3
namespace Go.Proofs.YtfodnadmabnacaaDoor
open Go.RowKit Base Base2

theorem code_of : ∀ k : Nat, 1 ≤ k → k ≤ 23 → (tabT.getD k (⟨#[]⟩, 0, 0)).2.2 ≠ 0
  | 0, h, _ => absurd h (by omega)
  | 1, _, _ => by decide
  | 2, _, _ => by decide
  | 3, _, _ => by decide
  | 4, _, _ => by decide
  | 5, _, _ => by decide
  | 6, _, _ => by decide
  | 7, _, _ => by decide
  | 8, _, _ => by decide
  | 9, _, _ => by decide
  | 10, _, _ => by decide
  | 11, _, _ => by decide
  | 12, _, _ => by decide
  | 13, _, _ => by decide
  | 14, _, _ => by decide
  | 15, _, _ => by decide
  | 16, _, _ => by decide
  | 17, _, _ => by decide
  | 18, _, _ => by decide
  | 19, _, _ => by decide
  | 20, _, _ => by decide
  | 21, _, _ => by decide
  | 22, _, _ => by decide
  | 23, _, _ => by decide
  | k + 24, _, h => absurd h (by omega)
theorem code_at {n : Int} (h : 1 ≤ n ∧ n ≤ 23) : (rowT n).2.2 ≠ 0 := by
  rw [row_yes h]; exact code_of n.toNat (by omega) (by omega)
theorem may_one {l : List StepT} (h : maySteps l = true) : ∀ s ∈ l, 1 ≤ s.r ∧ s.r ≤ 23 := fun s hs => by
  obtain ⟨i, hi⟩ := List.mem_iff_getElem?.1 hs
  have hlt := (List.getElem?_eq_some_iff.1 hi).1
  rw [may_ok] at h
  have k := List.all_eq_true.1 h i (List.mem_range.2 hlt)
  rw [okAt_some hi] at k
  simp only [Bool.and_eq_true] at k
  have k1 := k.1.1
  unfold oneS at k1
  simp only [Bool.and_eq_true] at k1
  exact ⟨of_decide_eq_true k1.1.1, of_decide_eq_true k1.1.2⟩
theorem weigh_code : ∀ (l : List StepT) (n : Int), (∀ s ∈ l, 1 ≤ s.r ∧ s.r ≤ 23) → ((weighS l n).1 == 0) = l.all holdS
  | [], n, _ => rfl
  | s :: l, n, h => by
    have ih := fun m => weigh_code l m (fun t ht => h t (List.mem_cons_of_mem _ ht))
    cases ho : s.o with
    | true => rw [weigh_over l n ho, List.all_cons, hold_over ho]; rfl
    | false =>
      cases hh : holdS s with
      | false =>
        rw [weigh_not l n ho hh, List.all_cons, hh, Bool.false_and]
        have := code_at (h s List.mem_cons_self)
        rw [beq_eq_false_iff_ne]
        exact this
      | true => rw [weigh_holds l n ho hh, List.all_cons, hh, Bool.true_and]; exact ih _
theorem all_take {l : List StepT} {i : Nat} {s : StepT} (h : l[i]? = some s) : (l.take (i + 1)).all holdS = ((l.take i).all holdS && holdS s) := by
  have e : l.take (i + 1) = l.take i ++ [s] := by rw [List.take_add_one, h]; rfl
  rw [e, List.all_append]; simp
set_option maxRecDepth 100000 in
set_option maxHeartbeats 8000000 in
theorem weighs4 {K : World → Prop} (C : RulesC K) (a : Option Addr) (c : Nat) (l : List StepT) (w : World) (hK : K w) (hr : StepsAt w a l) (hc : l.length ≤ c) (hin : ∀ s ∈ l, StepOk s) :
    Calls Tryd.prog 4 #[.slice a l.length c] w fun e w' => e = .returned (.bool true) ∧ Below w.heap.size w w' := by
  have HAL := Lib.hid (aliveR C w hK)
  have HC := Lib.hid (Below.refl w.heap.size w)
  by_cases h60 : 60 < l.length
  · have g : (l.length : Int) > 60 := by omega
    clear hr hin hc C hK
    go_enter Tryd.func4, Tryd.ntmps4
    go_wp2_with (go_at_call 6; refine (HAL.out).mono ?_; rintro e w1 ⟨rfl, hb⟩; replace HC := Lib.hid (HC.out.trans (hb.mono HC.out.size)); clear hb)
    go_ret
    exact ⟨rfl, HC.out⟩
  have g60 : ¬ (l.length : Int) > 60 := by omega
  have HKP := Lib.hid C.keep
  have HK := Lib.hid hK
  have HR := Lib.hid hr
  have HWE := Lib.hid (fun W hk (hs : StepsAt W a l) => C.weigh a c l W hk hs (by omega) hc hin)
  have HMA := Lib.hid (fun W hk (hs : StepsAt W a l) => C.may a c l W hk hs (by omega) hc hin)
  have HM2 := Lib.hid (fun W (hs : StepsAt W a l) => rmay17 a c l W hs (by omega))
  have HW2 := Lib.hid (fun W (hs : StepsAt W a l) => rweigh18 a c l W hs (by omega))
  have HHO := Lib.hid (fun (s : StepT) W => rholds12 s W)
  have hle : l.length ≤ 60 := by omega
  clear hr hin hc C hK h60
  cases hm : maySteps l with
  | false =>
    rw [hm] at HWE HMA HM2
    rw [if_neg (by simp)] at HWE
    clear hm
    obtain ⟨n, hn⟩ : ∃ n, l.length = n := ⟨_, rfl⟩
    rw [hn] at HWE HMA HM2 g60 ⊢
    clear hn
    go_enter Tryd.func4, Tryd.ntmps4
    go_upto_region 6 with (first
      | (go_at_call 6; refine (HAL.out).mono ?_; rintro e w1 ⟨rfl, hb⟩; replace HC := Lib.hid (HC.out.trans (hb.mono HC.out.size)); clear hb)
      | (go_at_call 15; refine (HWE.out _ (HKP.out _ _ HK.out HC.out) (HR.out.below HC.out)).mono ?_; rintro e w2 ⟨rfl, hb⟩; replace HC := Lib.hid (HC.out.trans (hb.mono HC.out.size)); clear hb))
    obtain ⟨W3, hW3⟩ : ∃ z, w2.alloc (.cells #[.int .i64 0, .int .i64 0] 35) = z := ⟨_, rfl⟩
    have hb3 : Below w2.heap.size w2 W3 := by rw [← hW3]; exact (Below.refl _ _).alloc (Nat.le_refl _) _
    have hz3 : W3.heap[w2.heap.size]? = some (.cells #[.int .i64 0, .int .i64 0] 35 (0, 0)) := by rw [← hW3]; exact heap_alloc_new w2 _
    have HZ := Lib.hid (fun W (h : Below W3.heap.size W3 W) => show W.cell? ⟨w2.heap.size, 0, none⟩ = some (.int .i64 0) ∧ W.cell? ⟨w2.heap.size, 1, none⟩ = some (.int .i64 0) from ⟨by rw [cell_of_row _ _ _ _ _ _ ((h.block _ (blk_ltR hz3)).trans hz3)]; rfl, by rw [cell_of_row _ _ _ _ _ _ ((h.block _ (blk_ltR hz3)).trans hz3)]; rfl⟩)
    replace HC := Lib.hid (HC.out.trans (hb3.mono HC.out.size))
    have HD := Lib.hid (Below.refl W3.heap.size W3)
    rw [hW3]
    clear hW3 hb3 hz3
    go_upto_region 9 with (first
      | (go_at_call 16; refine (HMA.out _ (HKP.out _ _ HK.out HC.out) (HR.out.below HC.out)).mono ?_; rintro e w4 ⟨rfl, hb⟩; replace HC := Lib.hid (HC.out.trans (hb.mono HC.out.size)); replace HD := Lib.hid (HD.out.trans (hb.mono HD.out.size)); clear hb)
      | (go_at_call 17; refine (HM2.out _ (HR.out.below HC.out)).mono ?_; rintro e w5 ⟨rfl, hb⟩; replace HC := Lib.hid (HC.out.trans (hb.mono HC.out.size)); replace HD := Lib.hid (HD.out.trans (hb.mono HD.out.size)); clear hb))
    obtain ⟨z0, z1⟩ := HZ.out _ HD.out
    go_wp2
    go_ret
    exact ⟨rfl, HC.out⟩
  | true =>
    have HWC := Lib.hid (weigh_code l 0 (may_one hm))
    rw [hm] at HWE HMA HM2
    rw [if_pos rfl] at HWE
    clear hm
    generalize (weighS l 0).1 = cd at *
    generalize (weighS l 0).2 = nd at *
    obtain ⟨n, hn⟩ : ∃ n, l.length = n := ⟨_, rfl⟩
    have HN := Lib.hid hn
    rw [hn] at HWE HMA HM2 HW2 g60 hle ⊢
    clear hn
    go_enter Tryd.func4, Tryd.ntmps4
    go_upto_region 6 with (first
      | (go_at_call 6; refine (HAL.out).mono ?_; rintro e w1 ⟨rfl, hb⟩; replace HC := Lib.hid (HC.out.trans (hb.mono HC.out.size)); clear hb)
      | (go_at_call 15; refine (HWE.out _ (HKP.out _ _ HK.out HC.out) (HR.out.below HC.out)).mono ?_; rintro e w2 ⟨rfl, hb⟩; replace HC := Lib.hid (HC.out.trans (hb.mono HC.out.size)); clear hb))
    obtain ⟨W3, hW3⟩ : ∃ z, w2.alloc (.cells #[.int .i64 cd, .int .i64 nd] 35) = z := ⟨_, rfl⟩
    have hb3 : Below w2.heap.size w2 W3 := by rw [← hW3]; exact (Below.refl _ _).alloc (Nat.le_refl _) _
    have hz3 : W3.heap[w2.heap.size]? = some (.cells #[.int .i64 cd, .int .i64 nd] 35 (0, 0)) := by rw [← hW3]; exact heap_alloc_new w2 _
    have HZ := Lib.hid (fun W (h : Below W3.heap.size W3 W) => show W.cell? ⟨w2.heap.size, 0, none⟩ = some (.int .i64 cd) ∧ W.cell? ⟨w2.heap.size, 1, none⟩ = some (.int .i64 nd) from ⟨by rw [cell_of_row _ _ _ _ _ _ ((h.block _ (blk_ltR hz3)).trans hz3)]; rfl, by rw [cell_of_row _ _ _ _ _ _ ((h.block _ (blk_ltR hz3)).trans hz3)]; rfl⟩)
    replace HC := Lib.hid (HC.out.trans (hb3.mono HC.out.size))
    have HLW := HC
    have HD := Lib.hid (Below.refl W3.heap.size W3)
    rw [hW3]
    clear hW3 hb3 hz3
    go_upto_region 10 with (first
      | (go_at_call 16; refine (HMA.out _ (HKP.out _ _ HK.out HC.out) (HR.out.below HC.out)).mono ?_; rintro e w4 ⟨rfl, hb⟩; replace HC := Lib.hid (HC.out.trans (hb.mono HC.out.size)); replace HD := Lib.hid (HD.out.trans (hb.mono HD.out.size)); clear hb)
      | (go_at_call 17; refine (HM2.out _ (HR.out.below HC.out)).mono ?_; rintro e w5 ⟨rfl, hb⟩; replace HC := Lib.hid (HC.out.trans (hb.mono HC.out.size)); replace HD := Lib.hid (HD.out.trans (hb.mono HD.out.size)); clear hb))
    go_wp2
    go_loopw [5, 6] (fun va vi W => ∃ (i : Nat), va = .bool ((l.take i).all holdS) ∧ vi = .int .i64 (i : Int) ∧ i ≤ n ∧ Below W3.heap.size W3 W) (fun _ vi _ => n - (intOf vi).toNat)
    case atStart => exact ⟨0, rfl, rfl, Nat.zero_le _, HD.out⟩
    case round =>
      clear HD HC
      obtain ⟨i, rfl, rfl, hi, hlo⟩ := hrel
      have HLO := Lib.hid hlo
      clear hlo
      by_cases hlt : i < n
      · obtain ⟨s, hx⟩ : ∃ s, l[i]? = some s := ⟨l[i]'(by rw [HN.out]; exact hlt), by simp [HN.out, hlt]⟩
        obtain ⟨b0, off, rfl, hcs⟩ := HR.out.at hx
        obtain ⟨k0, k1, k2, k3⟩ := hcs i s hx wr (HLW.out.trans (HLO.out.mono HLW.out.size))
        have HNX := Lib.hid (all_take hx)
        have HHS := Lib.hid (HHO.out s wr)
        clear hcs hx
        cases hb : (l.take i).all holdS with
        | true =>
          rw [hb, Bool.true_and] at HNX
          go_wp2_with (go_at_call 12; refine HHS.out.mono ?_; rintro e w6 ⟨rfl, hb6⟩; have HB6 := Lib.hid (HLO.out.trans (hb6.mono HLO.out.size)); clear hb6)
          go_roundw
          case rel => exact ⟨i + 1, by rw [HNX.out], by go_num, hlt, HB6.out⟩
          case measure => simp [intOf]; omega
        | false =>
          rw [hb, Bool.false_and] at HNX
          go_wp2
          repeat (first | (refine ⟨trivial, ?_⟩; go_wp2) | (refine ⟨fun _ _ => trivial, ?_⟩; go_wp2))
          go_roundw
          case rel => exact ⟨i + 1, by rw [HNX.out], by go_num, hlt, HLO.out⟩
          case measure => simp [intOf]; omega
      · rw [List.take_of_length_le (by rw [HN.out]; omega), ← HWC.out]
        have HCW := Lib.hid (HLW.out.trans (HLO.out.mono HLW.out.size))
        have HW5 := Lib.hid (fun W (h : Below wr.heap.size wr W) => HW2.out W (HR.out.below (HCW.out.trans (h.mono HCW.out.size))))
        have HZ5 := Lib.hid (fun W (h : Below wr.heap.size wr W) => HZ.out W (HLO.out.trans (h.mono HLO.out.size)))
        generalize hbb : (cd == 0) = bb at *
        have HBB := Lib.hid hbb
        clear hbb
        go_upto_region 15 with (fail)
        refine wp_region_held_drew (S := fun W => Below wr.heap.size wr W) (by kernel_rfl) ((Below.refl _ _).drew) (fun hS => ?_)
        refine wpAnyH_take (i := 0) (v := .int .i64 0) rfl (by kernel_rfl) (by kernel_rfl) (by kernel_rfl) (fun _ _ _ h => h) (Or.inl ⟨by simp [Region.wanted], fun W _ => by go_simp⟩) hS ?_
        simp only [List.getElem_toArray, List.getElem_cons_zero, Act.put, List.setIfInBounds_toArray, List.set_cons_zero, List.set_cons_succ]
        refine wpAnyH_take (i := 1) (v := .bool true) rfl (by kernel_rfl) (by kernel_rfl) (by kernel_rfl) (fun _ _ _ h => h) (Or.inl ⟨by simp [Region.wanted], fun W _ => by go_simp⟩) hS ?_
        simp only [List.getElem_toArray, List.getElem_cons_zero, List.getElem_cons_succ, Act.put, List.setIfInBounds_toArray, List.set_cons_zero, List.set_cons_succ]
        refine wpAnyH_take (i := 2) (v := .bool true) rfl (by kernel_rfl) (by kernel_rfl) (by kernel_rfl) (fun _ _ _ h => h) (Or.inl ⟨by simp [Region.wanted], fun W _ => by go_simp⟩) hS ?_
        simp only [List.getElem_toArray, List.getElem_cons_zero, List.getElem_cons_succ, Act.put, List.setIfInBounds_toArray, List.set_cons_zero, List.set_cons_succ]
        refine wpAnyH_take (i := 3) (v := .agg #[.int .i64 cd, .int .i64 nd]) rfl (by kernel_rfl) (by kernel_rfl) (by kernel_rfl) (fun _ _ _ h => h) (Or.inl ⟨by rfl, fun W hW => by have h1 := (HZ5.out W hW).1; have h2 := (HZ5.out W hW).2; go_simp⟩) hS ?_
        simp only [List.getElem_toArray, List.getElem_cons_zero, List.getElem_cons_succ, Act.put, List.setIfInBounds_toArray, List.set_cons_zero, List.set_cons_succ]
        refine wpAnyH_take (i := 4) (v := .slice a n c) rfl (by kernel_rfl) (by kernel_rfl) (by kernel_rfl) (fun _ _ _ h => h) (Or.inl ⟨by rfl, fun W _ => by go_simp⟩) hS ?_
        simp only [List.getElem_toArray, List.getElem_cons_zero, List.getElem_cons_succ, Act.put, List.setIfInBounds_toArray, List.set_cons_zero, List.set_cons_succ]
        refine wpAnyH_ready (rs := [5]) (by kernel_rfl) (by simp) ?_
        refine AllReadyH.cons rfl (fun K1 hK1 => ?_) AllReadyH.nil
        rw [if_pos (by rfl)]
        simp only [List.getElem_toArray, List.getElem_cons_zero, List.getElem_cons_succ]
        go_wp2_with (go_at_call 18; refine (HW5.out _ hS).mono ?_; rintro e w7 ⟨rfl, hb⟩; have HU := Lib.hid hb; clear hb)
        refine hK1.out _ _ (hS.trans (HU.out.mono hS.size)) (fun hS1 => ?_)
        refine wpAnyH_take (i := 6) (v := .bool true) rfl (by kernel_rfl) (by kernel_rfl) (by kernel_rfl) (fun _ _ _ h => h) (Or.inl ⟨by rfl, fun W _ => by go_simp⟩) hS1 ?_
        simp only [List.getElem_toArray, List.getElem_cons_zero, List.getElem_cons_succ, Act.put, List.setIfInBounds_toArray, List.set_cons_zero, List.set_cons_succ]
        refine wpAnyH_take (i := 7) (v := .bool true) rfl (by kernel_rfl) (by kernel_rfl) (by kernel_rfl) (fun _ _ _ h => h) (Or.inl ⟨by simp [Region.wanted], fun W _ => by go_simp⟩) hS1 ?_
        simp only [List.getElem_toArray, List.getElem_cons_zero, List.getElem_cons_succ, Act.put, List.setIfInBounds_toArray, List.set_cons_zero, List.set_cons_succ]
        refine wpAnyH_take (i := 8) (v := .bool true) rfl (by kernel_rfl) (by kernel_rfl) (by kernel_rfl) (fun _ _ _ h => h) (Or.inl ⟨by simp [Region.wanted], fun W _ => by go_simp⟩) hS1 ?_
        simp only [List.getElem_toArray, List.getElem_cons_zero, List.getElem_cons_succ, Act.put, List.setIfInBounds_toArray, List.set_cons_zero, List.set_cons_succ]
        refine wpAnyH_take (i := 9) (v := .pointer (some ⟨w2.heap.size, 0, none⟩)) rfl (by kernel_rfl) (by kernel_rfl) (by kernel_rfl) (fun _ _ _ h => h) (Or.inl ⟨by rfl, fun W _ => by go_simp⟩) hS1 ?_
        simp only [List.getElem_toArray, List.getElem_cons_zero, List.getElem_cons_succ, Act.put, List.setIfInBounds_toArray, List.set_cons_zero, List.set_cons_succ]
        refine wpAnyH_take (i := 10) (v := .int .i64 cd) rfl (by kernel_rfl) (by kernel_rfl) (by kernel_rfl) (fun _ _ _ h => h) (Or.inl ⟨by rfl, fun W hW => by have h1 := (HZ5.out W hW).1; go_simp⟩) hS1 ?_
        simp only [List.getElem_toArray, List.getElem_cons_zero, List.getElem_cons_succ, Act.put, List.setIfInBounds_toArray, List.set_cons_zero, List.set_cons_succ]
        refine wpAnyH_take (i := 11) (v := .bool bb) rfl (by kernel_rfl) (by kernel_rfl) (by kernel_rfl) (fun _ _ _ h => h) (Or.inl ⟨by rfl, fun W _ => by go_simp; exact HBB.out⟩) hS1 ?_
        simp only [List.getElem_toArray, List.getElem_cons_zero, List.getElem_cons_succ, Act.put, List.setIfInBounds_toArray, List.set_cons_zero, List.set_cons_succ]
        refine wpAnyH_take (i := 12) (v := .bool bb) rfl (by kernel_rfl) (by kernel_rfl) (by kernel_rfl) (fun _ _ _ h => h) (Or.inl ⟨by rfl, fun W _ => by go_simp⟩) hS1 ?_
        simp only [List.getElem_toArray, List.getElem_cons_zero, List.getElem_cons_succ, Act.put, List.setIfInBounds_toArray, List.set_cons_zero, List.set_cons_succ]
        refine wpAnyH_take (i := 13) (v := .bool true) rfl (by kernel_rfl) (by kernel_rfl) (by kernel_rfl) (fun _ _ _ h => h) (Or.inl ⟨by rfl, fun W _ => by go_simp⟩) hS1 ?_
        simp only [List.getElem_toArray, List.getElem_cons_zero, List.getElem_cons_succ, Act.put, List.setIfInBounds_toArray, List.set_cons_zero, List.set_cons_succ]
        refine wpAnyH_take (i := 14) (v := .bool true) rfl (by kernel_rfl) (by kernel_rfl) (by kernel_rfl) (fun _ _ _ h => h) (Or.inl ⟨by simp [Region.wanted], fun W _ => by go_simp⟩) hS1 ?_
        simp only [List.getElem_toArray, List.getElem_cons_zero, List.getElem_cons_succ, Act.put, List.setIfInBounds_toArray, List.set_cons_zero, List.set_cons_succ]
        refine wpAnyH_take (i := 15) (v := .bool true) rfl (by kernel_rfl) (by kernel_rfl) (by kernel_rfl) (fun _ _ _ h => h) (Or.inl ⟨by simp [Region.wanted], fun W _ => by go_simp⟩) hS1 ?_
        simp only [List.getElem_toArray, List.getElem_cons_zero, List.getElem_cons_succ, Act.put, List.setIfInBounds_toArray, List.set_cons_zero, List.set_cons_succ]
        refine wpAnyH_done (by kernel_rfl) ?_ _
        go_wp2
        go_ret
        exact ⟨rfl, HCW.out.trans (hS1.mono HCW.out.size)⟩
end Go.Proofs.YtfodnadmabnacaaDoor
