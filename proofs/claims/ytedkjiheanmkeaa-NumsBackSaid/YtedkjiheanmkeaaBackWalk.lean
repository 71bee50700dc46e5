/- What is written is read as it was, and the walk of NumsBack: it returns true and writes nothing that was there. -/
import Derived.Test.YtedkjiheanmkeaaOneWalk
import Derived.Deep.RegionWith
namespace Go.Proofs.Ytedkjiheanmkeaa
open Go.RowKit

theorem app_toList (a b : ByteArray) : (a ++ b).data.toList = a.data.toList ++ b.data.toList := by rw [ByteArray.data_append, Array.toList_append]
theorem encB_list (n : Nat) : (M.encB n).data.toList = M.enc n := rfl
theorem encB_len (n : Nat) : (M.encB n).size = (M.enc n).length := Lib.size_eq _
theorem num_app (n : Nat) (R : ByteArray) (h : n < 18446744073709551616) : M.num (M.encB n ++ R).data.toList = (n, (M.encB n).size, 0) := by
  rw [app_toList, encB_list, M.num_enc n _ h, encB_len]
theorem ext_app (a b : ByteArray) : (a ++ b).extract a.size (a ++ b).size = b := by
  apply ByteArray.ext
  apply Array.toList_inj.1
  rw [Lib.extract_data, app_toList, Lib.size_eq a, List.drop_left, List.take_of_length_le]
  rw [ByteArray.size_append, Lib.size_eq a, Lib.size_eq b]; omega

theorem back19 (p n : Nat) (R : ByteArray) (w : World) (h : n < 18446744073709551616) (hs : R.size ≤ 100000) (hX : RdX w p (M.encB n ++ R) 0) :
    Calls Try.prog 19 #[.pointer (some ⟨p, 0, none⟩), .int .u64 18446744073709551615] w fun x w' => x = .returned (.int .u64 (n : Int)) ∧ RdX w' p R 0 ∧ w.grownBy w' (some p) := by
  have hz := encB_size n
  have hc := num19_all p _ w (by rw [ByteArray.size_append]; omega) hX
  rw [num_app n R h] at hc
  simp only [afterX_ok, ext_app] at hc
  exact hc

theorem back20 (p : Nat) (m : Int) (R : ByteArray) (w : World) (h1 : -9223372036854775808 ≤ m) (h2 : m ≤ 9223372036854775807) (hs : R.size ≤ 100000) (hX : RdX w p (M.encB (M.zig m).toNat ++ R) 0) :
    Calls Try.prog 20 #[.pointer (some ⟨p, 0, none⟩)] w fun x w' => x = .returned (.int .i64 m) ∧ RdX w' p R 0 ∧ w.grownBy w' (some p) := by
  obtain ⟨z1, z2⟩ := M.zig_bd m h1 h2
  have hz := encB_size (M.zig m).toNat
  have hc := int20 p _ 0 w (by rw [ByteArray.size_append]; omega) hX
  rw [num_app _ R (by omega)] at hc
  simp only [afterX_ok, ext_app, orZ_ok] at hc
  rw [Int.toNat_of_nonneg z1, M.zag_zig] at hc
  exact hc

theorem ext_app0 (a b : ByteArray) : (a ++ b).extract 0 a.size = a := by
  apply ByteArray.ext
  apply Array.toList_inj.1
  rw [Lib.extract_data, app_toList, Lib.size_eq a, List.drop_zero, Nat.sub_zero, List.take_left]

theorem rowR_app (s R : ByteArray) (h : s.size ≤ 100000) : rowR (rowB s ++ R) (s.size : Int) = (s, ((rowB s).size : Int), 0) := by
  have e1 : rowB s ++ R = M.encB s.size ++ (s ++ R) := by unfold rowB; rw [ByteArray.append_assoc]
  have hn : M.num (rowB s ++ R).data.toList = (s.size, (M.encB s.size).size, 0) := by rw [e1]; exact num_app _ _ (by omega)
  have hto : numTo (rowB s ++ R).data.toList (rowMay (s.size : Int)) = (s.size, (M.encB s.size).size, 0) := by
    rw [numTo_ok (.inr (by rw [hn]; simp [rowMay])), hn]
  unfold rowR
  rw [hto]
  simp only [if_true]
  have e2 : (rowB s ++ R).extract (M.encB s.size).size (rowB s ++ R).size = s ++ R := by rw [e1]; exact ext_app _ _
  rw [e2]
  have e3 : takeR (s ++ R) (s.size : Int) = (s, 0) := by
    unfold takeR
    rw [if_neg (by omega), if_neg (by rw [ByteArray.size_append]; omega), Int.toNat_natCast, ext_app0]
  rw [e3]
  unfold rowB
  rw [ByteArray.size_append]
  simp

theorem back21 (p : Nat) (s R : ByteArray) (w : World) (h : s.size ≤ 10000) (hs : R.size ≤ 100000) (hX : RdX w p (rowB s ++ R) 0) :
    Calls Try.prog 21 #[.pointer (some ⟨p, 0, none⟩), .int .i64 (s.size : Int)] w fun x w' => x = .returned (.string s) ∧ RdX w' p R 0 ∧ w.grownBy w' (some p) := by
  have hz := encB_size s.size
  have hc := row21 p _ 0 (s.size : Int) w (by unfold rowB; rw [ByteArray.size_append, ByteArray.size_append]; omega) (by omega) hX
  rw [rowR_app s R (by omega)] at hc
  simp only [afterX_ok, ext_app, orZ_ok] at hc
  exact hc

theorem back24 (p : Nat) (R : ByteArray) (w : World) (hs : R.size ≤ 100000) (hX : RdX w p R 0) :
    Calls Try.prog 24 #[.pointer (some ⟨p, 0, none⟩), .int .i64 (R.size : Int)] w fun x w' => x = .returned (.string R) ∧ w.grownBy w' (some p) := by
  have hc := take24 p _ 0 (R.size : Int) w (by omega) hX
  have e3 : takeR R (R.size : Int) = (R, 0) := by
    unfold takeR
    rw [if_neg (by omega), if_neg (by omega), Int.toNat_natCast]
    congr 1
    apply ByteArray.ext
    apply Array.toList_inj.1
    rw [Lib.extract_data, List.drop_zero, Nat.sub_zero, List.take_of_length_le (by rw [Lib.size_eq]; omega)]
  rw [e3] at hc
  exact hc.mono fun x w' ⟨a, _, b⟩ => ⟨a, b⟩

set_option maxRecDepth 100000 in
set_option maxHeartbeats 2000000 in
theorem walk4 (a0 a1 : Int) (a2 a3 : ByteArray) (w : World) (ha1 : 0 ≤ a0) (ha2 : a0 ≤ 18446744073709551615) (hb1 : -9223372036854775808 ≤ a1) (hb2 : a1 ≤ 9223372036854775807) :
    Calls Try.prog 4 #[.int .u64 a0, .int .i64 a1, .string a2, .string a3] w fun e w' => e = .returned (.bool true) ∧ Below w.heap.size w w' := by
  by_cases hs : 2000 < a2.size
  · have hd : decide (2000 < (a2.size : Int)) = true := by simp; omega
    go_enter Try.func4, Try.ntmps4
    go_wp2_with (go_at_call 7; refine (alive7 _).mono ?_; rintro x w1 ⟨rfl, hq1⟩)
    go_ret
    exact ⟨rfl, hq1⟩
  · have hd : decide (2000 < (a2.size : Int)) = false := by simp; omega
    by_cases hs3 : 2000 < a3.size
    · go_enter Try.func4, Try.ntmps4
      go_wp2_with (go_at_call 7; refine (alive7 _).mono ?_; rintro x w1 ⟨rfl, hq1⟩)
      go_ret
      exact ⟨rfl, hq1⟩
    · have z0 := encB_size a0.toNat
      have z1 := encB_size (M.zig a1).toNat
      have zz := encB_size a2.size
      have z2 : (rowB a2).size ≤ 2010 := by unfold rowB; rw [ByteArray.size_append]; omega
      have n1 : ¬ 9223372036854775807 < (M.encB a0.toNat).size + (M.encB (M.zig a1).toNat).size := by omega
      have n2 : ¬ 9223372036854775807 < (M.encB a0.toNat).size + (M.encB (M.zig a1).toNat).size + (rowB a2).size := by omega
      have n3 : ¬ 9223372036854775807 < (M.encB a0.toNat).size + (M.encB (M.zig a1).toNat).size + (rowB a2).size + a3.size := by omega
      have HB : Hid (M.encB a0.toNat ++ M.encB (M.zig a1).toNat ++ rowB a2 ++ a3 = M.encB a0.toNat ++ (M.encB (M.zig a1).toNat ++ (rowB a2 ++ a3))) := by
        show _ = _
        rw [ByteArray.append_assoc, ByteArray.append_assoc]
      have hn0 : a0.toNat < 18446744073709551616 := by omega
      obtain ⟨zz1, zz2⟩ := M.zig_bd a1 hb1 hb2
      obtain ⟨zb1, zb2⟩ := M.zag_bd a0 ha1 ha2
      clear zz
      go_enter Try.func4, Try.ntmps4
      go_wp2_with (first
        | (go_at_call 7; refine (alive7 _).mono ?_; rintro x w1 ⟨rfl, hq1⟩)
        | (go_at_call 8; refine (num8 _ _ ha1 ha2).mono ?_; rintro x w2 ⟨rfl, hq2⟩)
        | (go_at_call 10; refine (int10 _ _ hb1 hb2).mono ?_; rintro x w3 ⟨rfl, hq3⟩)
        | (go_at_call 12; refine (row12 _ _ (by omega)).mono ?_; rintro x w4 ⟨rfl, hq4⟩)
        | (go_at_call 18; refine (read18 _ _).mono ?_; rintro x w5 ⟨rfl, hX, hq5⟩; rw [HB.out] at hX; have HX := Lib.hid hX; clear hX)
        | (go_at_call 19; refine (back19 _ a0.toNat _ _ hn0 (by simp only [ByteArray.size_append]; omega) HX.out).mono ?_; rw [Int.toNat_of_nonneg ha1]; rintro x w6 ⟨rfl, hX, hg6⟩; have HX6 := Lib.hid hX; clear hX)
        | (go_at_call 20; refine (back20 _ a1 _ _ hb1 hb2 (by simp only [ByteArray.size_append]; omega) HX6.out).mono ?_; rintro x w7 ⟨rfl, hX, hg7⟩; have HX7 := Lib.hid hX; clear hX)
        | (go_at_call 21; refine (back21 _ a2 _ _ (by omega) (by omega) HX7.out).mono ?_; rintro x w8 ⟨rfl, hX, hg8⟩; have HX8 := Lib.hid hX; clear hX)
        | (go_at_call 22; refine (fault22 _ _ _ _ HX8.out).mono ?_; rintro x w9 ⟨rfl, rfl⟩)
        | (go_at_call 23; refine (left23 _ _ _ _ HX8.out).mono ?_; rintro x w9 ⟨rfl, rfl⟩)
        | (go_at_call 24; refine (back24 _ a3 _ (by omega) HX8.out).mono ?_; rintro x w9 ⟨rfl, hg9⟩)
        | (go_at_call_of 14 (a1); refine (zig14 _ _ hb1 hb2).mono ?_; rintro x w9 ⟨rfl, rfl⟩)
        | (go_at_call_of 16 (M.zig a1); refine (zag16 _ _ zz1 zz2).mono ?_; rw [M.zag_zig]; rintro x w9 ⟨rfl, rfl⟩)
        | (go_at_call_of 16 (a0); refine (zag16 _ _ ha1 ha2).mono ?_; rintro x w9 ⟨rfl, rfl⟩)
        | (go_at_call_of 14 (M.zag a0); refine (zig14 _ _ zb1 zb2).mono ?_; rw [M.zig_zag _ ha1]; rintro x w9 ⟨rfl, rfl⟩))
      go_ret
      have s1 := hq1.size; have s2 := hq2.size; have s3 := hq3.size; have s4 := hq4.size; have s5 := hq5.size
      have h5 := (((hq1.trans (hq2.mono s1)).trans (hq3.mono (by omega))).trans (hq4.mono (by omega))).trans (hq5.mono (by omega))
      exact ⟨rfl, below_own h5 (grown_trans (grown_trans (grown_trans hg6 hg7) hg8) hg9) (by omega)⟩
end Go.Proofs.Ytedkjiheanmkeaa
