/- The program's isName, size; the library's Clone of texts. -/
import Derived.Test.YtcedkilgfoiifaaDkP3
import Derived.Test.YtcedkilgfoiifaaDkMay
import Derived.Laws.MakeOwn
import Derived.Lib.UnsafeStr
import Derived.Lib.Walk
namespace Go.Proofs.Ytcedkilgfoiifaa
open Go.RowKit Base Base2

theorem info5N : (Try.prog.info? 5).map (fun i => (i.zero, i.size, i.bytes)) = some (some (.int .u8 0), 1, 1) := by kernel_rfl
set_option maxHeartbeats 4000000 in
set_option maxRecDepth 100000 in
/-- internal/stringslite.Clone: the same bytes, in new memory. -/
theorem clone53 (s : ByteArray) (w : World) (hlim : s.size ≤ 281474976710656) :
    Calls Try.prog 49 #[.string s] w fun e w' => e = .returned (.string s) ∧ Below w.heap.size w w' := by
  by_cases h0 : s.size = 0
  · have hs : s = ⟨#[]⟩ := by
      apply ByteArray.ext
      exact Array.eq_empty_of_size_eq_zero h0
    subst hs
    go_enter Try.func49, Try.ntmps49
    go_wp2
    go_ret
    exact ⟨rfl, Below.refl _ _⟩
  · obtain ⟨i0, hi, hz0, hz1, hz2⟩ := info_parts info5N
    have hinfo : (Try.prog.info? 5).map (·.size) = some 1 := by rw [hi]; simp [hz1]
    have hco : Try.prog.cellsOf 5 = 1 := by simp [Program.cellsOf, hi, hz1]
    obtain ⟨M, hM⟩ : ∃ M, M = madeCells (Value.int .u8 0).cells (((s.size : Nat) : Int).toNat * i0.size) := ⟨_, rfl⟩
    have hMs : M.size = s.size := by rw [hM, size_madeCells, hz1]; simp
    have hmk : ∀ W : World, (Instr.makeSlice 72 (.int .i64 (s.size : Int)) (.int .i64 (s.size : Int))).run Try.prog W = .ok (.slice (some ⟨W.heap.size, 0, none⟩) s.size s.size) (W.alloc (.cells M 5)) := fun W => by
      have h := run_make (P := Try.prog) W 72 5 i0 (.int .u8 0) Try.underlying72 hi hz0 .i64 .i64 (s.size : Int) (s.size : Int) (by omega) (by omega) (by rw [hz2]; omega) (by omega)
      rw [← hM] at h
      simpa using h
    clear hM
    have hcp := Lib.run_copy_row_string (P := Try.prog) (w.alloc (.cells M 5)) 72 9 3 5 w.heap.size 0 s.size s.size s M 5 Try.underlying72 hinfo (heap_alloc_new w _) (Nat.le_refl _) (by omega)
    obtain ⟨Y, hY⟩ : ∃ Y, Y = (M.toList.take 0 ++ Lib.byteCells s.data.toList ++ M.toList.drop (0 + s.size)).toArray := ⟨_, rfl⟩
    rw [← hY] at hcp
    have hYl : Y.toList = Lib.byteCells s.data.toList := by
      rw [hY, List.toList_toArray, List.take_zero, List.nil_append, List.drop_of_length_le (by rw [Array.length_toList]; omega), List.append_nil]
    have hYs : Y.size = s.size := by rw [← Array.length_toList, hYl, Lib.byteCells_length, ← Lib.size_eq]
    have hgY : ((w.alloc (.cells M 5)).setRow w.heap.size Y).heap[w.heap.size]? = some (.cells Y 5 (0, 0)) := setRow_heap _ _ M _ 5 (0, 0) (heap_alloc_new w _)
    have hne : s.data.toList ≠ [] := fun e => h0 (by rw [Lib.size_eq, e]; rfl)
    have hUS := Lib.run_unsafeString_row (P := Try.prog) ((w.alloc (.cells M 5)).setRow w.heap.size Y) 86 3 9 5 Try.underlying86 hco w.heap.size Y.size (by unfold World.shape?; rw [hgY]) s.data.toList hne (by rw [← Lib.size_eq]; omega) (by rw [← Lib.size_eq]; omega)
      (fun j x hx => Lib.cells_of_row hgY Y.size j _ (by rw [List.take_of_length_le (by rw [Array.length_toList]; exact Nat.le_refl _), hYl]; simp [Lib.byteCells, hx]))
    rw [← Lib.size_eq] at hUS
    clear hY
    go_enter Try.func49, Try.ntmps49
    go_wp2
    go_ret
    have hb1 : Below w.heap.size w (w.alloc (.cells M 5)) := (Below.refl _ w).alloc (Nat.le_refl _) _
    have hb2 : Below w.heap.size (w.alloc (.cells M 5)) ((w.alloc (.cells M 5)).setRow w.heap.size Y) := ⟨rfl, rfl, rfl, by simp, fun k hk => setRow_other _ _ _ _ (by omega)⟩
    exact ⟨rfl, Lib.below_freeze (hb1.trans hb2) (p := ⟨w.heap.size, 0, none⟩) (Nat.le_refl _) _⟩

theorem clone51 (s : ByteArray) (w : World) (hlim : s.size ≤ 281474976710656) :
    Calls Try.prog 43 #[.string s] w fun e w' => e = .returned (.string s) ∧ Below w.heap.size w w' := by
  go_enter Try.func43, Try.ntmps43
  go_wp2_with (go_at_call 49; refine (clone53 s _ hlim).mono ?_; rintro e w' ⟨rfl, hb⟩)
  go_ret
  exact ⟨rfl, hb⟩

theorem empty_of_size {s : ByteArray} (h : s.size = 0) : s = ⟨#[]⟩ := by
  apply ByteArray.ext
  exact Array.eq_empty_of_size_eq_zero (by simpa using h)

set_option maxRecDepth 100000 in
set_option maxHeartbeats 4000000 in
theorem isName35 (s : ByteArray) (w : World) (hs : s.size ≤ maxLen) : Calls Try.prog 35 #[.string s] w fun e w' => e = .returned (.bool (namedS s)) ∧ ∃ m, w' = w.drewN m := by
  unfold maxLen at hs
  obtain ⟨RES, hR⟩ : ∃ R, namedS s = R := ⟨_, rfl⟩
  rw [hR]
  have HR := Lib.hid hR
  clear hR
  go_enter Try.func35, Try.ntmps35
  go_wp2
  go_loopw [8] (fun vi W => (∃ i : Nat, i ≤ s.size ∧ vi = .int .i64 (i : Int) ∧ (∀ (j : Nat) (hj : j < s.size), j < i → charOk s[j] = true)) ∧ ∃ m, W = w.drewN m) (fun vi _ => s.size - (intOf vi).toNat)
  case atStart => exact ⟨⟨0, by omega, rfl, fun j _ hj => by omega⟩, 0, rfl⟩
  case round =>
    obtain ⟨⟨i, hi, rfl, hal⟩, m, hW⟩ := hrel
    have HW := Lib.hid hW
    clear hW
    by_cases hlt : i < s.size
    · have HAL := Lib.hid hal
      have HNO := Lib.hid (fun h => namedS_no hlt h)
      have HC : Hid (charOk s[i] = ((decide ((48 : Int) ≤ (s[i].toNat : Int)) && decide ((s[i].toNat : Int) ≤ 57)) || (decide ((97 : Int) ≤ (s[i].toNat : Int)) && decide ((s[i].toNat : Int) ≤ 122)))) := by
        show _ = _
        unfold charOk
        rw [show decide (48 ≤ s[i].toNat) = decide ((48 : Int) ≤ (s[i].toNat : Int)) from decide_eq_decide.2 (by omega), show decide (s[i].toNat ≤ 57) = decide ((s[i].toNat : Int) ≤ 57) from decide_eq_decide.2 (by omega),
          show decide (97 ≤ s[i].toNat) = decide ((97 : Int) ≤ (s[i].toNat : Int)) from decide_eq_decide.2 (by omega), show decide (s[i].toNat ≤ 122) = decide ((s[i].toNat : Int) ≤ 122) from decide_eq_decide.2 (by omega)]
      obtain ⟨c, hc⟩ : ∃ c : Int, (s[i].toNat : Int) = c := ⟨_, rfl⟩
      rw [hc] at HC
      have good : Hid (charOk s[i] = true → ∀ (j : Nat) (hj : j < s.size), j < i + 1 → charOk s[j] = true) := fun h j hj hji => by
        by_cases hji2 : j < i
        · exact HAL.out j hj hji2
        · obtain rfl : j = i := by omega
          exact h
      clear hal
      by_cases k1 : c < 48
      · have k2 : ¬ (48 : Int) ≤ c := by omega
        have k3 : ¬ (97 : Int) ≤ c := by omega
        have hk : charOk s[i] = false := by
          rw [HC.out]; simp only [Bool.or_eq_false_iff, Bool.and_eq_false_iff, decide_eq_false_iff_not]; omega
        have HN := Lib.hid (HR.out.symm.trans (HNO.out hk))
        clear hk
        go_upto_region 4 with (fail)
        go_quiet (fail)
        go_wp2
        go_ret
        exact ⟨by rw [HN.out]; rfl, m + nq, by rw [HW.out, World.drewN_drewN]⟩
      by_cases k2 : c ≤ 57
      · have k3 : (48 : Int) ≤ c := by omega
        have k4 : ¬ (97 : Int) ≤ c := by omega
        have hk : charOk s[i] = true := by
          rw [HC.out]; simp only [Bool.or_eq_true, Bool.and_eq_true, decide_eq_true_eq]; omega
        have HG := Lib.hid (good.out hk)
        clear hk
        go_upto_region 4 with (fail)
        go_quiet (fail)
        go_wp2
        go_roundw
        case rel => exact ⟨⟨i + 1, by omega, by go_num, HG.out⟩, m + nq, by rw [HW.out, World.drewN_drewN]⟩
        case measure => simp [intOf]; omega
      by_cases k4 : c < 97
      · have k3 : (48 : Int) ≤ c := by omega
        have k5 : ¬ (97 : Int) ≤ c := by omega
        have hk : charOk s[i] = false := by
          rw [HC.out]; simp only [Bool.or_eq_false_iff, Bool.and_eq_false_iff, decide_eq_false_iff_not]; omega
        have HN := Lib.hid (HR.out.symm.trans (HNO.out hk))
        clear hk
        go_upto_region 4 with (fail)
        go_quiet (fail)
        go_wp2
        go_ret
        exact ⟨by rw [HN.out]; rfl, m + nq, by rw [HW.out, World.drewN_drewN]⟩
      by_cases k6 : c ≤ 122
      · have k3 : (48 : Int) ≤ c := by omega
        have k7 : (97 : Int) ≤ c := by omega
        have hk : charOk s[i] = true := by
          rw [HC.out]; simp only [Bool.or_eq_true, Bool.and_eq_true, decide_eq_true_eq]; omega
        have HG := Lib.hid (good.out hk)
        clear hk
        go_upto_region 4 with (fail)
        go_quiet (fail)
        go_wp2
        go_roundw
        case rel => exact ⟨⟨i + 1, by omega, by go_num, HG.out⟩, m + nq, by rw [HW.out, World.drewN_drewN]⟩
        case measure => simp [intOf]; omega
      have k3 : (48 : Int) ≤ c := by omega
      have k7 : (97 : Int) ≤ c := by omega
      have hk : charOk s[i] = false := by
        rw [HC.out]; simp only [Bool.or_eq_false_iff, Bool.and_eq_false_iff, decide_eq_false_iff_not]; omega
      have HN := Lib.hid (HR.out.symm.trans (HNO.out hk))
      clear hk
      go_upto_region 4 with (fail)
      go_quiet (fail)
      go_wp2
      go_ret
      exact ⟨by rw [HN.out]; rfl, m + nq, by rw [HW.out, World.drewN_drewN]⟩
    · have hie : i = s.size := by omega
      have HA := Lib.hid (HR.out.symm.trans (namedS_all (fun j hj => hal j hj (by omega))))
      clear hal
      subst hie
      by_cases k1 : s.size = 0
      · have e : (decide (1 ≤ s.size) && decide (s.size ≤ 16)) = false := by simp [k1]
        have z1 : (s.toList == (⟨#[]⟩ : ByteArray).toList) = true := by rw [empty_of_size k1]; simp
        have z2 : s.toList.isEmpty = true := by rw [empty_of_size k1]; simp
        have HB := Lib.hid (HA.out.trans e)
        clear e HA
        go_wp2
        go_ret
        exact ⟨by rw [HB.out]; rfl, m, HW.out⟩
      · have z1 : (s.toList == (⟨#[]⟩ : ByteArray).toList) = false := (not_emptyD k1).1
        have z2 : s.toList.isEmpty = false := (not_emptyD k1).2
        by_cases k3 : (s.size : Int) ≤ 16
        · have e : (decide (1 ≤ s.size) && decide (s.size ≤ 16)) = true := by simp; omega
          have HB := Lib.hid (HA.out.trans e)
          clear e HA k1
          go_wp2
          go_ret
          exact ⟨by rw [HB.out]; rfl, m, HW.out⟩
        · have e : (decide (1 ≤ s.size) && decide (s.size ≤ 16)) = false := by simp; omega
          have HB := Lib.hid (HA.out.trans e)
          clear e HA k1
          go_wp2
          go_ret
          exact ⟨by rw [HB.out]; rfl, m, HW.out⟩
end Go.Proofs.Ytcedkilgfoiifaa
