/- The turns on the way down; whether a text has another length: the contracts of turnsTo, ContainsFunc, the closures. -/
import Derived.Test.YtgpebamadhabnaaDoorTreeMem
import Derived.Test.YtgpebamadhabnaaDoorShaHash
import Derived.Lib.SmallJoins
namespace Go.Proofs.YtgpebamadhabnaaDoor
open Go.RowKit

theorem info4 : (Tryd.prog.info? 4).map (fun i => (i.zero, i.size, i.bytes)) = some (some (.bool false), 1, 1) := by kernel_rfl
theorem one_cell_bool (b : Bool) : ∀ u ∈ [Value.bool b], u.oneCell' = true := by
  intro u hu; simp at hu; subst hu; rfl

set_option maxRecDepth 100000 in
set_option maxHeartbeats 1000000 in
theorem turns26 (k c : Nat) (w : World) (hk : k ≤ 60000) (hc : c ≤ 60000) :
    Calls Tryd.prog 26 #[.int .i64 (k : Int), .int .i64 (c : Int)] w fun e w' => ∃ v, e = .returned v ∧ w'.ownsRow w.heap.size 4 1 v (turnsS k c).length ((turnsS k c).map Value.bool) ∧ Below w.heap.size w w' := by
  obtain ⟨i0, hi, hz0, hz1, hz2⟩ := info_parts info4
  obtain ⟨B, hB⟩ : ∃ B, w.heap.size = B := ⟨_, rfl⟩
  rw [hB]
  obtain ⟨R, hR⟩ : ∃ R, turnsS k c = R := ⟨_, rfl⟩
  rw [hR]
  have hRl : R.length ≤ 60000 := by rw [← hR]; exact Nat.le_trans (turnsS_len k c) hc
  have HR := Lib.hid hR; have HB := Lib.hid hB
  clear hR hB
  go_enter Tryd.func26, Tryd.ntmps26
  go_upto_region 2 with (fail)
  go_loopw [0, 1, 5] (fun vk vc v W => ∃ (k' c' : Nat) (T : List Bool), k' ≤ 60000 ∧ c' ≤ 60000 ∧ vk = .int .i64 (k' : Int) ∧ vc = .int .i64 (c' : Int) ∧ T ++ turnsS k' c' = R ∧ W.ownsRow B 4 1 v T.length (T.map Value.bool) ∧ Below B w W ∧ B ≤ W.heap.size) (fun _ vc _ _ => (intOf vc).toNat)
  case atStart => exact ⟨k, c, [], hk, hc, rfl, rfl, HR.out, World.ownsRow_nil _ _ _ _, Below.refl _ _, by rw [HB.out]; exact Nat.le_refl _⟩
  case round =>
    obtain ⟨k', c', T, hk', hc', rfl, rfl, hT, ho, hb, hs⟩ := hrel
    have HT := Lib.hid hT; have HO := Lib.hid ho; have HBl := Lib.hid hb; have HS := Lib.hid hs
    have hTl : T.length ≤ R.length := by rw [← hT]; simp
    clear hT ho hb hs
    by_cases h : (c' : Int) > 1
    · have HSP := Lib.hid (splitP c' wr hc')
      have p1 := spl_pos (c := c') (by omega)
      have p2 := spl_lt (c := c') (by omega)
      have HL := Lib.hid (fun h => turnsS_left (k := k') (c := c') (by omega) h)
      have HRT := Lib.hid (fun h => turnsS_right (k := k') (c := c') (by omega) h)
      generalize spl c' = s at *
      by_cases hks : (k' : Int) ≥ (s : Int)
      · as_aux_lemma =>
        go_wp2_with (first
          | (go_at_call 17; refine HSP.out.mono ?_; rintro e w' ⟨rfl, rfl⟩)
          | (at_builtin; refine wpList_append_own _ rfl _ _ 53 rfl B 4 i0 (.bool false) 1 1 Tryd.underlying53 hi hz0 hz1 hz2 rfl (by decide) _ _ _ rfl (HO.out.alloc _) ⟨wr.heap.size, 0, none⟩ 1 1 [.bool true] rfl rfl (new_one _ _ _) (one_cell_bool _) (by unfold maxLen; omega) (by omega) (by have := HS.out; simp; omega) ?_; intro v' w1 hown' hgrow _; have HO1 := Lib.hid hown'; have HG1 := Lib.hid hgrow; clear hown' hgrow))
        go_roundw
        case rel =>
          refine ⟨k' - s, c' - s, T ++ [true], by omega, by omega, by go_num, by go_num, ?_, ?_, HBl.out.grown (World_grown_alloc HG1.out) HS.out (own_block_ge HO.out), by have := HG1.out.size; have := HS.out; simp at *; omega⟩
          · rw [List.append_assoc, ← HT.out, HRT.out (by omega)]; rfl
          · rw [List.length_append, List.map_append]; exact HO1.out
        case measure => simp [intOf]; omega
      · as_aux_lemma =>
        go_wp2_with (first
          | (go_at_call 17; refine HSP.out.mono ?_; rintro e w' ⟨rfl, rfl⟩)
          | (at_builtin; refine wpList_append_own _ rfl _ _ 53 rfl B 4 i0 (.bool false) 1 1 Tryd.underlying53 hi hz0 hz1 hz2 rfl (by decide) _ _ _ rfl (HO.out.alloc _) ⟨wr.heap.size, 0, none⟩ 1 1 [.bool false] rfl rfl (new_one _ _ _) (one_cell_bool _) (by unfold maxLen; omega) (by omega) (by have := HS.out; simp; omega) ?_; intro v' w1 hown' hgrow _; have HO1 := Lib.hid hown'; have HG1 := Lib.hid hgrow; clear hown' hgrow))
        go_roundw
        case rel =>
          refine ⟨k', s, T ++ [false], by omega, by omega, by go_num, by go_num, ?_, ?_, HBl.out.grown (World_grown_alloc HG1.out) HS.out (own_block_ge HO.out), by have := HG1.out.size; have := HS.out; simp at *; omega⟩
          · rw [List.append_assoc, ← HT.out, HL.out (by omega)]; rfl
          · rw [List.length_append, List.map_append]; exact HO1.out
        case measure => simp [intOf]; omega
    · have hTR : T = R := by have := HT.out; rwa [turnsS_nil (by omega), List.append_nil] at this
      have HF := Lib.hid (show wr.ownsRow B 4 1 u5 R.length (R.map Value.bool) by rw [← hTR]; exact HO.out)
      clear hTR
      go_wp2
      go_ret
      exact ⟨_, rfl, HF.out, HBl.out⟩

/-- The closure: has a text another length? -/
theorem pred28 (t : ByteArray) (g : Nat) (n : Int) (w : World) (hg : w.cell? ⟨g, 0, none⟩ = some (.int .i64 n)) :
    Calls Tryd.prog 28 #[.string t, .pointer (some ⟨g, 0, none⟩)] w fun e w' => e = .returned (.bool (decide ((t.size : Int) ≠ n))) ∧ w = w' := by
  by_cases h : (t.size : Int) = n
  · have hb : ((t.size : Int) != n) = false := by simpa using h
    rw [decide_eq_false (by omega)]
    go_enter Tryd.func28, Tryd.ntmps28
    go_wp2
    go_ret
    exact ⟨rfl, rfl⟩
  · have hb : ((t.size : Int) != n) = true := by simpa using h
    rw [decide_eq_true (by omega)]
    go_enter Tryd.func28, Tryd.ntmps28
    go_wp2
    go_ret
    exact ⟨rfl, rfl⟩
theorem enters28 (args : Array Value) (w : World) : (callFunc 28 args).run Tryd.prog w = .ok (.enter 28 args) w := by kernel_rfl

set_option maxRecDepth 100000 in
theorem index38 (a : Option Addr) (l : List ByteArray) (cap g : Nat) (n : Int) (w : World) (hr : StrsAt w a l) (hl : l.length ≤ maxLen) (hg : w.cell? ⟨g, 0, none⟩ = some (.int .i64 n)) :
    Calls Tryd.prog 38 #[.slice a l.length cap, .func (.func 28) #[] #[.pointer (some ⟨g, 0, none⟩)]] w fun e w' => (∃ r : Int, e = .returned (.int .i64 r) ∧ decide (0 ≤ r) = l.any (fun t => decide ((t.size : Int) ≠ n))) ∧ w = w' := by
  obtain ⟨m, hm⟩ : ∃ m, l.length = m := ⟨_, rfl⟩
  rw [hm] at hl ⊢
  have HP := Lib.hid (fun t => pred28 t g n w hg)
  have HE := enters28
  have HR := Lib.hid hr; have HM := Lib.hid hm
  clear hr hm hg
  unfold maxLen at hl
  go_enter Tryd.func38, Tryd.ntmps38
  go_upto_region 2 with (fail)
  go_loop [8] (fun v => ∃ i : Nat, i ≤ m ∧ v = .int .i64 (i : Int) ∧ ∀ j t, j < i → l[j]? = some t → (t.size : Int) = n) (fun v => m - (intOf v).toNat)
  case atStart => exact ⟨0, by omega, rfl, fun j t hj => absurd hj (by omega)⟩
  case round =>
    obtain ⟨i, hi, rfl, hsz⟩ := hrel
    have HSZ := Lib.hid hsz
    clear hsz
    by_cases hlt : (i : Int) < (m : Int)
    · obtain ⟨b, off, rfl, hbw, hcell⟩ := HR.out.some (by rw [HM.out]; omega)
      obtain ⟨t, ht⟩ : ∃ t, l[i]? = some t := ⟨_, List.getElem?_eq_getElem (by rw [HM.out]; omega)⟩
      have c1 := hcell i t ht
      have HT := Lib.hid ht
      have HPT := Lib.hid (HP.out t)
      clear hcell ht
      by_cases h : (t.size : Int) = n
      · rw [decide_eq_false (by omega)] at HPT
        go_wp2_with (with_reducible refine HPT.out.mono ?_; rintro e w' ⟨rfl, rfl⟩)
        go_round
        case rel =>
          refine ⟨i + 1, by omega, by go_num, fun j u hj hu => ?_⟩
          by_cases hji : j = i
          · subst hji; rw [HT.out] at hu; cases hu; exact h
          · exact HSZ.out j u (by omega) hu
        case measure => simp [intOf]; omega
      · rw [decide_eq_true (by omega)] at HPT
        go_wp2_with (with_reducible refine HPT.out.mono ?_; rintro e w' ⟨rfl, rfl⟩)
        go_ret
        refine ⟨⟨(i : Int), rfl, ?_⟩, rfl⟩
        rw [decide_eq_true (by omega)]
        exact (List.any_eq_true.2 ⟨t, List.mem_of_getElem? HT.out, by simpa using h⟩).symm
    · go_wp2
      go_ret
      refine ⟨⟨-1, rfl, ?_⟩, rfl⟩
      rw [decide_eq_false (by omega)]
      refine (List.any_eq_false.2 fun t ht => ?_).symm
      obtain ⟨j, hj⟩ := List.mem_iff_getElem?.1 ht
      have hjm := (List.getElem?_eq_some_iff.1 hj).1
      rw [HM.out] at hjm
      have := HSZ.out j t (by omega) hj
      simpa using this
theorem contains27 (a : Option Addr) (l : List ByteArray) (cap g : Nat) (n : Int) (w : World) (hr : StrsAt w a l) (hl : l.length ≤ maxLen) (hg : w.cell? ⟨g, 0, none⟩ = some (.int .i64 n)) :
    Calls Tryd.prog 27 #[.slice a l.length cap, .func (.func 28) #[] #[.pointer (some ⟨g, 0, none⟩)]] w fun e w' => e = .returned (.bool (l.any (fun t => decide ((t.size : Int) ≠ n)))) ∧ w = w' := by
  have HI := Lib.hid (index38 a l cap g n w hr hl hg)
  generalize l.any (fun t => decide ((t.size : Int) ≠ n)) = R at *
  clear hr hg
  go_enter Tryd.func27, Tryd.ntmps27
  go_wp2_with (go_at_call 38; refine HI.out.mono ?_; rintro e w' ⟨⟨r, rfl, hr⟩, rfl⟩)
  go_ret
  exact ⟨by rw [← hr]; rfl, rfl⟩
end Go.Proofs.YtgpebamadhabnaaDoor
